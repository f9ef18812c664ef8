/-
  The walk of apart: each fact's chunks in memory of its own.
-/
import Derived.Test.YtdfmfjahnnifnaaAg
namespace Go.Proofs.Ytdfmfjahnnifnaa
set_option maxRecDepth 20000
set_option linter.unusedSimpArgs false
set_option linter.unusedVariables false
open Go.RowKit Go.Great Go.Shelf
theorem flatF_set {v : Value} {y : Fm} : ∀ {Q : List Fm} (j : Nat), j < Q.length → (∀ x ∈ Q, (fc x).length = 38) → fc y = (fc (Q.getD j d0)).set 5 v → flatF (Q.set j y) = (flatF Q).set (j * 38 + 5) v := by
  intro Q
  induction Q with
  | nil => intro j hj; simp at hj
  | cons x Q ih =>
    intro j hj hl he
    have hx := hl x List.mem_cons_self
    have e0 : ∀ (z : Fm) (R : List Fm), flatF (z :: R) = fc z ++ flatF R := fun _ _ => by simp [flatF]
    cases j with
    | zero =>
      rw [List.set_cons_zero, e0, e0, Nat.zero_mul, Nat.zero_add, List.set_append_left _ _ (by omega), he]
      rfl
    | succ j =>
      rw [List.set_cons_succ, e0, e0, List.set_append_right _ _ (by omega), hx, show (j + 1) * 38 + 5 - 38 = j * 38 + 5 by omega, ih j (by simpa using hj) (fun z hz => hl z (List.mem_cons_of_mem _ hz)) (by simpa using he)]
theorem own_set {w : World} {B e size n cap g k : Nat} {xs : List Value} {u : Value} (h : w.ownsRow B e size (.slice (some ⟨g, 0, none⟩) n cap) n xs) (hk : k < xs.length) :
    (w.setCell ⟨g, k, none⟩ u).ownsRow B e size (.slice (some ⟨g, 0, none⟩) n cap) n (xs.set k u) := by
  rcases h.2 with ⟨h', _⟩ | ⟨g', cap', cur, hv, hb, hh, hnc, hcm, hsz, htk⟩
  · simp at h'
  · injection hv with e1 e2 e3
    injection e1 with e1
    injection e1 with e1
    subst e1 e3
    refine ⟨by rw [List.length_set]; exact h.1, Or.inr ⟨g, cap, cur.setIfInBounds k u, rfl, hb, heap_setCell_same w g k cur e u hh, hnc, hcm, by simp [hsz], ?_⟩⟩
    rw [Array.toList_setIfInBounds, List.take_set, htk]
/-- Half of a list's members have chunks of their own. -/
structure Half (w : World) (B G : Nat) (a : Option Addr) (n c : Nat) (l : List Ft.Fact) (j : Nat) (Q : List Fm) : Prop where
  own : w.ownsRow B 30 38 (.slice a n c) n (flatF Q)
  len : Q.length = n
  fs : FS Q = l
  new : ∀ i, i < j → i < n → Rw w (fun b => G ≤ b) (Q.getD i d0)
  old : ∀ i, j ≤ i → i < n → Rw w (fun b => b < B) (Q.getD i d0)
theorem Half.row {w : World} {B G : Nat} {a : Option Addr} {n c : Nat} {l : List Ft.Fact} {j : Nat} {Q : List Fm} (h : Half w B G a n c l j Q) (hBG : B ≤ G) (hG : G ≤ w.heap.size) : ∀ x ∈ Q, Rw w (fun _ => True) x := fun x hx => by
  obtain ⟨i, hi, rfl⟩ := List.getElem_of_mem hx
  have hin : i < n := by rw [← h.len]; exact hi
  have e : Q.getD i d0 = Q[i] := by simp [hi]
  by_cases hij : i < j
  · rw [← e]; exact (h.new i hij hin).weak fun _ _ _ => trivial
  · rw [← e]; exact (h.old i (by omega) hin).weak fun _ _ _ => trivial
/-- A list that is given away is answered, each member's chunks in memory of their own. -/
def ApQ (w : World) (B : Nat) (l : List Ft.Fact) (e : Ending) (w' : World) : Prop := ∃ a n c R, e = .returned (.slice a n c) ∧ Own w' B a n c R ∧ FS R = l ∧ Below B w w'
set_option maxHeartbeats 4000000 in
theorem apart_any {w : World} {B : Nat} {a : Option Addr} {n c : Nat} {R : List Fm} (h : Lay w B a n c R) (hB : B ≤ w.heap.size) (hn : n ≤ 100000) (hf : ∀ f ∈ FS R, f.man.ds.length ≤ 1000) :
    Calls Try.prog 40 #[.slice a n c] w (ApQ w B (FS R)) := by
  by_cases h0 : n = 0
  · subst h0
    have hR : R = [] := List.eq_nil_of_length_eq_zero h.len
    subst hR
    have HX : Hid (Own w B a 0 c []) := Lib.hid ⟨h.own, (fun x hx => by cases hx), rfl⟩
    clear h
    go_enter Try.func40, Try.ntmps40
    go_wp2
    go_loopw [3, 4, 7] (fun _ _ i wr => i = .int .i64 0 ∧ wr = w) (fun _ _ i _ => 0)
    case atStart => exact ⟨rfl, rfl⟩
    case round =>
      obtain ⟨rfl, rfl⟩ := hrel
      go_wp2
      go_ret
      exact ⟨a, 0, c, [], rfl, HX.out, rfl, Below.refl _ _⟩
  obtain ⟨g, cap, hv, hBg, hgl⟩ := h.own.form (by omega)
  injection hv with e1 e2 e3
  subst e1 e3
  have HJ0 : Hid (∃ Q, Half w B w.heap.size (some ⟨g, 0, none⟩) n c (FS R) 0 Q ∧ Below B w w) := Lib.hid ⟨R, ⟨h.own, h.len, rfl, fun i hi => absurd hi (Nat.not_lt_zero i), fun i _ hi => h.rows _ (by
    have : i < R.length := by rw [h.len]; exact hi
    simp [this])⟩, Below.refl _ _⟩
  have HF := Lib.hid hf
  clear h hf
  go_enter Try.func40, Try.ntmps40
  go_wp2
  go_loopw [3, 4, 7] (fun _ _ i wr => ∃ j : Nat, j ≤ n ∧ i = .int .i64 (j : Int) ∧ Hid (∃ Q, Half wr B w.heap.size (some ⟨g, 0, none⟩) n c (FS R) j Q ∧ Below B w wr)) (fun _ _ i _ => n - (intOf i).toNat)
  case atStart => exact ⟨0, Nat.zero_le _, rfl, HJ0⟩
  case round =>
    clear HJ0
    obtain ⟨j, hj, rfl, HJ⟩ := hrel
    obtain ⟨Q, hQ⟩ := HJ.out
    have HQ := Lib.hid hQ
    clear hQ HJ
    by_cases hlt : j < n
    case neg =>
      have q : ¬ ((j : Int) < (n : Int)) := by omega
      go_wp2
      go_ret
      refine ⟨_, n, c, Q, rfl, ⟨HQ.out.1.own, fun x hx => ?_, HQ.out.1.len⟩, HQ.out.1.fs, HQ.out.2⟩
      obtain ⟨i, hi, rfl⟩ := List.getElem_of_mem hx
      have hin : i < n := by rw [← HQ.out.1.len]; exact hi
      have e : Q.getD i d0 = Q[i] := by simp [hi]
      rw [← e]
      exact (HQ.out.1.new i (by omega) hin).weak fun b _ hb => by omega
    have q : (j : Int) < (n : Int) := by omega
    obtain ⟨y, hy⟩ : ∃ y, Q.getD j d0 = y := ⟨_, rfl⟩
    have hrw := HQ.out.1.old j (Nat.le_refl _) hlt
    rw [hy] at hrw
    obtain ⟨da, dn, dc, hM, hdc, hds, hwh, h1, h2⟩ := hrw.1
    injection hM with hM
    have hM' : y.2 = mcs y.1.man.size y.1.man.chunk (.slice da dn dc) y.1.man.wh := by
      have := congrArg Array.toList hM
      simpa using this
    have hjl : j < Q.length := by rw [HQ.out.1.len]; exact hlt
    have hfy : dn ≤ 1000 := by
      rw [← hds.1]
      refine HF.out y.1 ?_
      rw [← HQ.out.1.fs, ← hy]
      exact List.mem_map.2 ⟨Q[j], List.getElem_mem hjl, by simp [hjl]⟩
    have k5 : wr.cell? ⟨g, j * 38 + 5, none⟩ = some (.slice da dn dc) := by
      have hQr : ∀ x ∈ Q, Rw wr (fun _ => True) x := HQ.out.1.row hB (by have := HQ.out.2.size; omega)
      have := HQ.out.1.own.cellAt (j * 38 + 5) (by omega)
      rw [this, flatF_idx hQr j 5 hjl (by omega), hy]
      unfold fc
      rw [hM']
      rfl
    have HY := Lib.hid (And.intro hds (And.intro hwh (And.intro h1 (And.intro h2 (And.intro hM' (And.intro hjl hrw.2))))))
    have HYE := Lib.hid hy
    clear hds hwh h1 h2 hM hM' hjl hrw hy
    go_wp2_with fail
    refine (cloneD_any HY.out.1 (by omega)).mono ?_
    rintro e w4 ⟨a', c', rfl, hc', hd', hb4⟩
    have sj : w.heap.size ≤ wr.heap.size := HQ.out.2.size
    have hgr : g < wr.heap.size := by omega
    have k6 : w4.cell? ⟨g, j * 38 + 5, none⟩ = some (.slice da dn dc) := (hb4.cell (p := ⟨g, j * 38 + 5, none⟩) hgr).trans k5
    have ho4 : w4.ownsRow B 30 38 (.slice (some ⟨g, 0, none⟩) n c) n (flatF Q) := own_keep HQ.out.1.own (fun b hq => hb4.block b (own_lt HQ.out.1.own b hq))
    have f6 : w4.frozen? ⟨g, j * 38 + 5, none⟩ = false := by
      rcases ho4.2 with ⟨h', _⟩ | ⟨g', cap', cur, hv, _, hh, _⟩
      · simp at h'
      · injection hv with e1
        injection e1 with e1
        injection e1 with e1
        subst e1
        simp [World.frozen?, hh]
    have hrows : ∀ x ∈ Q, (fc x).length = 38 := fun x hx => fc_len (HQ.out.1.row hB sj x hx)
    have hfl : (flatF Q).length = n * 38 := ho4.1
    have hset := own_set (u := .slice a' dn c') ho4 (k := j * 38 + 5) (by omega)
    have hfc : fc (y.1, mcs y.1.man.size y.1.man.chunk (.slice a' dn c') y.1.man.wh) = (fc (Q.getD j d0)).set 5 (.slice a' dn c') := by
      rw [HYE.out]
      unfold fc
      rw [HY.out.2.2.2.2.1]
      rfl
    rw [← flatF_set j HY.out.2.2.2.2.2.1 hrows hfc] at hset
    have hsz : (w4.setCell ⟨g, j * 38 + 5, none⟩ (.slice a' dn c')).heap.size = w4.heap.size := by simp [World.setCell]
    have hoth : ∀ b, b ≠ g → (w4.setCell ⟨g, j * 38 + 5, none⟩ (.slice a' dn c')).heap[b]? = w4.heap[b]? := fun b hb => heap_setCell_other _ _ _ _ hb
    have hgetne : ∀ i, i ≠ j → (Q.set j (y.1, mcs y.1.man.size y.1.man.chunk (.slice a' dn c') y.1.man.wh)).getD i d0 = Q.getD i d0 := fun i hi => by
      simp [List.getD_eq_getElem?_getD, List.getElem?_set_ne (Ne.symm hi)]
    have hgeteq : (Q.set j (y.1, mcs y.1.man.size y.1.man.chunk (.slice a' dn c') y.1.man.wh)).getD j d0 = (y.1, mcs y.1.man.size y.1.man.chunk (.slice a' dn c') y.1.man.wh) := by
      simp [List.getD_eq_getElem?_getD, List.getElem?_set_self HY.out.2.2.2.2.2.1]
    have hH : Half (w4.setCell ⟨g, j * 38 + 5, none⟩ (.slice a' dn c')) B w.heap.size (some ⟨g, 0, none⟩) n c (FS R) (j + 1) (Q.set j (y.1, mcs y.1.man.size y.1.man.chunk (.slice a' dn c') y.1.man.wh)) := by
      refine ⟨hset, by rw [List.length_set]; exact HQ.out.1.len, ?_, fun i hi hin => ?_, fun i hi hin => ?_⟩
      · rw [← HQ.out.1.fs]
        unfold FS
        rw [List.map_set]
        refine List.ext_getElem (by simp) fun i h1 h2 => ?_
        rw [List.getElem_set]
        split
        · rename_i hij
          subst hij
          have hjl : j < Q.length := HY.out.2.2.2.2.2.1
          have : Q[j] = y := by rw [← HYE.out]; simp [hjl]
          simp [this]
        · rfl
      · by_cases hij : i = j
        · subst hij
          rw [hgeteq]
          refine ⟨⟨a', dn, c', rfl, hc', ?_, HY.out.2.1, HY.out.2.2.1, HY.out.2.2.2.1⟩, by rw [mcs_len HY.out.2.1.1], HY.out.2.2.2.2.2.2.2⟩
          exact (hd'.keep (by rw [hsz]; exact Nat.le_refl _) (fun b _ hb => hoth b (by omega))).weak fun b _ hb => by omega
        · rw [hgetne i hij]
          exact ((HQ.out.1.new i (by omega) hin).below hb4 (fun b hb _ => hb)).keep (by rw [hsz]; exact Nat.le_refl _) (fun b _ hb => hoth b (by omega))
      · rw [hgetne i (by omega)]
        exact ((HQ.out.1.old i (by omega) hin).below hb4 (fun b hb _ => hb)).keep (by rw [hsz]; exact Nat.le_refl _) (fun b _ hb => hoth b (by omega))
    have hB5 : Below B w (w4.setCell ⟨g, j * 38 + 5, none⟩ (.slice a' dn c')) := (HQ.out.2.trans (hb4.mono (by omega))).setCell (p := ⟨g, j * 38 + 5, none⟩) hBg _
    have HJ5 : Hid (∃ Q', Half (w4.setCell ⟨g, j * 38 + 5, none⟩ (.slice a' dn c')) B w.heap.size (some ⟨g, 0, none⟩) n c (FS R) (j + 1) Q' ∧ Below B w (w4.setCell ⟨g, j * 38 + 5, none⟩ (.slice a' dn c'))) := Lib.hid ⟨_, hH, hB5⟩
    clear hH hB5 hgetne hgeteq hoth hsz hset hfc hrows hfl ho4 hc' hd' hb4 k5 sj hgr
    go_wp2
    exact ⟨⟨j + 1, by omega, by go_num, HJ5⟩, by simp [intOf]; omega⟩
end Go.Proofs.Ytdfmfjahnnifnaa
