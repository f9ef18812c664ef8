/-
  The walk of the document's Same of two lists of facts.
-/
import Derived.Test.YtdfmfjahnnifnaaFd
import Derived.Test.YtdfmfjahnnifnaaIi
namespace Go.Proofs.Ytdfmfjahnnifnaa
set_option maxRecDepth 20000
set_option linter.unusedSimpArgs false
set_option linter.unusedVariables false
open Go.RowKit
theorem info_fact {D : Nat → Prop} {w : World} {x : Fm} (h : Rw w D x) : (Try.prog.info? 30).map (·.size) = some (fc x).length := by
  rw [fc_len h]; kernel_rfl
theorem FS_ext {R Q : List Fm} (hl : R.length = Q.length) (h : ∀ j, j < R.length → (R.getD j d0).1 = (Q.getD j d0).1) : FS R = FS Q := by
  refine List.ext_getElem (by simp [FS, hl]) fun j h1 h2 => ?_
  have hj : j < R.length := by simpa [FS] using h1
  have := h j hj
  have hj' : j < Q.length := by omega
  simpa [FS, hj, hj'] using this
theorem FS_at {R Q : List Fm} (h : FS R = FS Q) (j : Nat) : (R.getD j d0).1 = (Q.getD j d0).1 := by rw [← FS_get, ← FS_get, h]
/-- What Same answers of lists. -/
def SameL (w : World) (R Q : List Fm) (e : Ending) (w' : World) : Prop := ∃ b : Bool, e = .returned (.bool b) ∧ (b = true ↔ FS R = FS Q) ∧ Below w.heap.size w w'
theorem samel_no {w : World} {R Q : List Fm} {w' : World} (h : FS R ≠ FS Q) (hb : Below w.heap.size w w') : SameL w R Q (.returned (.bool false)) w' :=
  ⟨false, rfl, ⟨(fun e => by cases e), fun e => absurd e h⟩, hb⟩
theorem samel_yes {w : World} {R Q : List Fm} {w' : World} (h : FS R = FS Q) (hb : Below w.heap.size w w') : SameL w R Q (.returned (.bool true)) w' :=
  ⟨true, rfl, ⟨fun _ => h, fun _ => rfl⟩, hb⟩
set_option maxHeartbeats 2000000 in
theorem rlsame_any {w : World} {S S' D D' : Nat → Prop} {a a' : Option Addr} {n n' c c' : Nat} {R Q : List Fm} (h : Fts w S D a n R) (h' : Fts w S' D' a' n' Q) (hn : n ≤ 1000000) (hn' : n' ≤ 1000000) (hf : ∀ x ∈ R, x.1.man.ds.length ≤ 1000) :
    Calls Try.prog 16 #[.slice a n c, .slice a' n' c'] w (SameL w R Q) := by
  have H := Lib.hid h.old
  have H' := Lib.hid h'.old
  have HLN := Lib.hid (And.intro h.1 h'.1)
  have HF := Lib.hid hf
  clear h h' hf
  go_enter Try.func16, Try.ntmps16
  by_cases z : n = n'
  case neg =>
    have d0 : ((n : Int) != (n' : Int)) = true := by simp; omega
    have HN : Hid (FS R ≠ FS Q) := Lib.hid (fun e => z (by rw [← HLN.out.1, ← HLN.out.2, ← FS_len, e, FS_len]))
    clear z
    go_wp2
    go_ret
    exact samel_no HN.out (Below.refl _ _)
  subst z
  go_wp2
  go_loopw [5, 6] (fun i _ wr => ∃ j : Nat, j ≤ n ∧ i = .int .i64 (j : Int) ∧ Hid (∀ i, i < j → (R.getD i d0).1 = (Q.getD i d0).1) ∧ Hid (Below w.heap.size w wr)) (fun i _ _ => n - (intOf i).toNat)
  case atStart => exact ⟨0, Nat.zero_le _, rfl, Lib.hid (fun i hi => absurd hi (Nat.not_lt_zero i)), Lib.hid (Below.refl _ _)⟩
  case round =>
    obtain ⟨j, hj, rfl, HN, HB⟩ := hrel
    by_cases hlt : j < n
    · obtain ⟨b, off, rfl, _, hbl, hrg, hrw⟩ := (H.out.below HB.out (fun _ _ h => h) (fun _ _ h => h)).at_ hlt
      obtain ⟨b', off', rfl, _, hbl', hrg', hrw'⟩ := (H'.out.below HB.out (fun _ _ h => h) (fun _ _ h => h)).at_ hlt
      obtain ⟨x, hx⟩ : ∃ x, R.getD j d0 = x := ⟨_, rfl⟩
      obtain ⟨y, hy⟩ : ∃ y, Q.getD j d0 = y := ⟨_, rfl⟩
      rw [hx] at hrg hrw
      rw [hy] at hrg' hrw'
      have hxl : x.1.man.ds.length ≤ 1000 := by
        have hl : j < R.length := by rw [HLN.out.1]; exact hlt
        exact HF.out x (by rw [← hx]; simp [hl])
      have i1 := info_fact hrw
      have i2 := info_fact hrw'
      have HX := Lib.hid (And.intro hx (And.intro hy hxl))
      have HR := Lib.hid (And.intro hrw hrw')
      clear hx hy hxl hrw hrw'
      have und := Try.underlying30
      have rg1 : wr.drew.rangeAt b (off + j * 38) (fc x) := hrg
      have rg2 : wr.drew.rangeAt b' (off' + j * 38) (fc y) := hrg'
      have hz1 : ¬ (j ≥ n) := by omega
      go_upto_region 6 with fail
      refine wp_region_held_drew (S := fun w' => w'.rangeAt b (off + j * 38) (fc x) ∧ w'.rangeAt b' (off' + j * 38) (fc y)) (by kernel_rfl) ⟨rg1, rg2⟩ (fun hHeld => ?_)
      refine wpAnyH_take (i := 0) (v := .slice (some ⟨b, off, none⟩) n c) rfl (by kernel_rfl) (by kernel_rfl) (by kernel_rfl) (fun _ _ _ h => h) (Or.inl ⟨by rfl, (by intro w hSw; (try dsimp only at hSw); go_simp)⟩) (by assumption) ?_
      try simp only [Act.put, List.getElem_toArray, List.getElem_cons_zero, List.getElem_cons_succ, List.setIfInBounds_toArray, List.set_cons_zero, List.set_cons_succ]
      refine wpAnyH_take (i := 1) (v := .int .i64 (j : Int)) rfl (by kernel_rfl) (by kernel_rfl) (by kernel_rfl) (fun _ _ _ h => h) (Or.inl ⟨by rfl, (by intro w hSw; (try dsimp only at hSw); go_simp)⟩) (by assumption) ?_
      try simp only [Act.put, List.getElem_toArray, List.getElem_cons_zero, List.getElem_cons_succ, List.setIfInBounds_toArray, List.set_cons_zero, List.set_cons_succ]
      refine wpAnyH_take (i := 2) (v := .pointer (some ⟨b, off + j * 38, none⟩)) rfl (by kernel_rfl) (by kernel_rfl) (by kernel_rfl) (fun _ _ _ h => h) (Or.inl ⟨by rfl, (by intro w hSw; (try dsimp only at hSw); go_simp)⟩) (by assumption) ?_
      try simp only [Act.put, List.getElem_toArray, List.getElem_cons_zero, List.getElem_cons_succ, List.setIfInBounds_toArray, List.set_cons_zero, List.set_cons_succ]
      refine wpAnyH_take (i := 3) (v := .agg (fc x).toArray) rfl (by kernel_rfl) (by kernel_rfl) (by kernel_rfl) (fun _ _ _ h => h) (yieldsIf_load_mid (by rfl) _ _ rfl _ _ rfl _ _ (fun w hSw => hSw.1) und rfl i1) (by assumption) ?_
      try simp only [Act.put, List.getElem_toArray, List.getElem_cons_zero, List.getElem_cons_succ, List.setIfInBounds_toArray, List.set_cons_zero, List.set_cons_succ]
      refine wpAnyH_take (i := 4) (v := .slice (some ⟨b', off', none⟩) n c') rfl (by kernel_rfl) (by kernel_rfl) (by kernel_rfl) (fun _ _ _ h => h) (Or.inl ⟨by rfl, (by intro w hSw; (try dsimp only at hSw); go_simp)⟩) (by assumption) ?_
      try simp only [Act.put, List.getElem_toArray, List.getElem_cons_zero, List.getElem_cons_succ, List.setIfInBounds_toArray, List.set_cons_zero, List.set_cons_succ]
      refine wpAnyH_take (i := 5) (v := .int .i64 (j : Int)) rfl (by kernel_rfl) (by kernel_rfl) (by kernel_rfl) (fun _ _ _ h => h) (Or.inl ⟨by rfl, (by intro w hSw; (try dsimp only at hSw); go_simp)⟩) (by assumption) ?_
      try simp only [Act.put, List.getElem_toArray, List.getElem_cons_zero, List.getElem_cons_succ, List.setIfInBounds_toArray, List.set_cons_zero, List.set_cons_succ]
      refine wpAnyH_take (i := 6) (v := .pointer (some ⟨b', off' + j * 38, none⟩)) rfl (by kernel_rfl) (by kernel_rfl) (by kernel_rfl) (fun _ _ _ h => h) (Or.inl ⟨by rfl, (by intro w hSw; (try dsimp only at hSw); go_simp)⟩) (by assumption) ?_
      try simp only [Act.put, List.getElem_toArray, List.getElem_cons_zero, List.getElem_cons_succ, List.setIfInBounds_toArray, List.set_cons_zero, List.set_cons_succ]
      refine wpAnyH_take (i := 7) (v := .agg (fc y).toArray) rfl (by kernel_rfl) (by kernel_rfl) (by kernel_rfl) (fun _ _ _ h => h) (yieldsIf_load_mid (by rfl) _ _ rfl _ _ rfl _ _ (fun w hSw => hSw.2) und rfl i2) (by assumption) ?_
      try simp only [Act.put, List.getElem_toArray, List.getElem_cons_zero, List.getElem_cons_succ, List.setIfInBounds_toArray, List.set_cons_zero, List.set_cons_succ]
      refine wpAnyH_ready (rs := [8]) (by kernel_rfl) (by simp) (AllReadyH.cons rfl (fun K hK => ?_) AllReadyH.nil)
      try simp only [List.getElem_toArray, List.getElem_cons_zero, List.getElem_cons_succ]
      go_simp
      refine (rfsame_any (w := wr.drew) HR.out.1.fv HR.out.2.fv (Or.inl HX.out.2.2)).mono ?_
      rintro e w3 ⟨t, rfl, htt, hb3⟩
      have hb3' : Below wr.heap.size wr w3 := below_drew hb3
      have r3 : w3.rangeAt b (off + j * 38) (fc x) ∧ w3.rangeAt b' (off' + j * 38) (fc y) := ⟨range_below hrg hb3' hbl, range_below hrg' hb3' hbl'⟩
      have HB3 := Lib.hid (HB.out.trans (hb3'.mono HB.out.size))
      clear hb3 hb3' hHeld rg1 rg2 hrg hrg'
      go_wp2_with fail
      refine hK.out _ _ r3 (fun hHeld => ?_)
      clear hK K hHeld
      try simp only [Act.put, List.getElem_toArray, List.getElem_cons_zero, List.getElem_cons_succ, List.setIfInBounds_toArray, List.set_cons_zero, List.set_cons_succ]
      have hHeld := r3
      refine wpAnyH_take (i := 9) (v := .bool t) rfl (by kernel_rfl) (by kernel_rfl) (by kernel_rfl) (fun _ _ _ h => h) (Or.inl ⟨by rfl, (by intro w hSw; (try dsimp only at hSw); go_simp)⟩) (by assumption) ?_
      try simp only [Act.put, List.getElem_toArray, List.getElem_cons_zero, List.getElem_cons_succ, List.setIfInBounds_toArray, List.set_cons_zero, List.set_cons_succ]
      refine wpAnyH_done (by kernel_rfl) ?_ _
      cases t with
      | true =>
        have HNX := Lib.hid (show ∀ i, i < j + 1 → (R.getD i d0).1 = (Q.getD i d0).1 from fun i hi => by
          by_cases hij : i = j
          · rw [hij, HX.out.1, HX.out.2.1]; exact htt.1 rfl
          · exact HN.out i (by omega))
        clear htt
        go_wp2
        exact ⟨⟨j + 1, by omega, by go_num, HNX, HB3⟩, by simp [intOf]; omega⟩
      | false =>
        have HNO : Hid (FS R ≠ FS Q) := Lib.hid (fun e => by
          have h1 := FS_at e j
          rw [HX.out.1, HX.out.2.1] at h1
          have := htt.2 h1
          cases this)
        clear htt
        go_wp2
        go_ret
        exact samel_no HNO.out HB3.out
    · obtain rfl : j = n := by omega
      have HE := Lib.hid (FS_ext (by rw [HLN.out.1, HLN.out.2]) (fun i hi => HN.out i (by rw [← HLN.out.1]; exact hi)))
      go_wp2
      go_ret
      exact samel_yes HE.out HB.out
end Go.Proofs.Ytdfmfjahnnifnaa
