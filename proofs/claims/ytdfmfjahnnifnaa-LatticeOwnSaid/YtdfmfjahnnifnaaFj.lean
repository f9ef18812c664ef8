/-
  The walk of the document's Merge.
-/
import Derived.Test.YtdfmfjahnnifnaaFi
namespace Go.Proofs.Ytdfmfjahnnifnaa
set_option maxRecDepth 20000
set_option linter.unusedSimpArgs false
set_option linter.unusedVariables false
open Go.RowKit Go.Great
theorem merge_snoc (N : Int) (r l : List Ft.Fact) {j : Nat} (h : j < l.length) : La.merge N r (l.take (j + 1)) = (La.add N (La.merge N r (l.take j)) (l.getD j Ft.nought)).1 := by
  rw [take_snocF l h, La.merge_append, La.merge_one]
/-- What Merge answers. -/
def Mrgd (w : World) (N : Int) (r q : List Ft.Fact) (e : Ending) (w' : World) : Prop :=
  ∃ a n c R', e = .returned (.slice a n c) ∧ n ≤ c ∧ Fts w' (fun b => b < w'.heap.size) (fun b => b < w'.heap.size) a n R' ∧ FS R' = La.merge N r q ∧ Below w.heap.size w w'
set_option maxHeartbeats 4000000 in
theorem rmerge_any {w : World} {S D S' D' : Nat → Prop} {a b : Option Addr} {n c m d : Nat} {R Q : List Fm} (h : Fts w S D a n R) (hc : n ≤ c) (h' : Fts w S' D' b m Q) (hn : n ≤ 1000) (hm : m ≤ 1000) (N : Int) :
    Calls Try.prog 33 #[.int .i64 N, .slice a n c, .slice b m d] w (Mrgd w N (FS R) (FS Q)) := by
  have H' := Lib.hid h'.old
  have HLN := Lib.hid (And.intro (show (FS R).length = n by rw [FS_len, h.1]) (show (FS Q).length = m by rw [FS_len, h'.1]))
  have H0 : Hid (n ≤ c ∧ Fts w (fun b => b < w.heap.size) (fun b => b < w.heap.size) a n R ∧ FS R = La.merge N (FS R) ((FS Q).take 0) ∧ Below w.heap.size w w) := Lib.hid ⟨hc, h.old, rfl, Below.refl _ _⟩
  clear h h'
  go_enter Try.func33, Try.ntmps33
  go_wp2
  go_loopw [7, 8, 9, 10] (fun v i _ _ wr => ∃ (j n2 c2 : Nat) (a2 : Option Addr) (R2 : List Fm), j ≤ m ∧ v = .slice a2 n2 c2 ∧ i = .int .i64 (j : Int) ∧ Hid (n2 ≤ c2 ∧ Fts wr (fun b => b < wr.heap.size) (fun b => b < wr.heap.size) a2 n2 R2 ∧ FS R2 = La.merge N (FS R) ((FS Q).take j) ∧ Below w.heap.size w wr)) (fun _ i _ _ _ => m - (intOf i).toNat)
  case atStart => exact ⟨0, n, c, a, R, Nat.zero_le _, rfl, rfl, H0⟩
  case round =>
    clear H0
    obtain ⟨j, n2, c2, a2, R2, hj, rfl, rfl, HJ⟩ := hrel
    by_cases hlt : j < m
    · obtain ⟨g, off, rfl, _, hbl, hrg, hrw⟩ := (H'.out.below HJ.out.2.2.2 (fun _ _ h => h) (fun _ _ h => h)).at_ hlt
      obtain ⟨y, hy⟩ : ∃ y, Q.getD j d0 = y := ⟨_, rfl⟩
      have hs := merge_snoc N (FS R) (FS Q) (j := j) (by rw [HLN.out.2]; exact hlt)
      rw [FS_get, ← HJ.out.2.2.1] at hs
      rw [hy] at hrg hrw hs
      have hn2 : n2 ≤ 2000 := by
        have h1 := HJ.out.2.1.1
        have h2 := La.merge_len (nodes := N) ((FS Q).take j) (a := FS R)
        rw [← HJ.out.2.2.1, FS_len, HLN.out.1, List.length_take] at h2
        omega
      have iY := info_fact hrw
      have und := Try.underlying30
      have HS := Lib.hid hs
      have HY := Lib.hid hrw
      have HRG := Lib.hid hrg
      clear hs hrw hrg hy
      go_wp2_with (first
        | ((with_reducible show wpList _ _ _ ((⟨_, Op.load 30 (.tmp 23), _, _, _, _⟩ : Oper) :: _) _ _); refine wpList_load_midG (by rfl) _ (.tmp 23) rfl g (off + j * 38) rfl (fc y) _ HRG.out und rfl iY ?_)
        | fail)
      refine (radd_any HJ.out.2.1 HJ.out.1 (by omega) HY.out N).mono ?_
      rintro e w3 ⟨a3, n3, c3, R3, rfl, hc3, hf3, hfs3, hb3⟩
      have HJ3 : Hid (n3 ≤ c3 ∧ Fts w3 (fun b => b < w3.heap.size) (fun b => b < w3.heap.size) a3 n3 R3 ∧ FS R3 = La.merge N (FS R) ((FS Q).take (j + 1)) ∧ Below w.heap.size w w3) :=
        Lib.hid ⟨hc3, hf3.old, hfs3.trans HS.out.symm, HJ.out.2.2.2.trans (hb3.mono HJ.out.2.2.2.size)⟩
      clear hc3 hf3 hfs3 hb3 HS HY HRG HJ
      go_wp2
      exact ⟨⟨j + 1, n3, c3, a3, R3, by omega, rfl, by go_num, HJ3⟩, by simp [intOf]; omega⟩
    · have hjm : j = m := by omega
      have HE : Hid ((FS Q).take j = FS Q) := Lib.hid (List.take_of_length_le (by rw [HLN.out.2]; omega))
      have q : ¬ ((j : Int) < (m : Int)) := by omega
      clear hjm
      go_wp2
      go_ret
      exact ⟨a2, n2, c2, R2, rfl, HJ.out.1, HJ.out.2.1, by rw [HJ.out.2.2.1, HE.out], HJ.out.2.2.2⟩
end Go.Proofs.Ytdfmfjahnnifnaa
