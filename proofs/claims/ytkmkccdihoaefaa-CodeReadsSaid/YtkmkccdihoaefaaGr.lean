/-
  The walk of CodeReads.
-/
import Derived.Test.YtkmkccdihoaefaaGv
set_option linter.unusedSimpArgs false
namespace Go.Proofs.Ytkmkccdihoaefaa
open Go.RowKit
theorem reads_len (ps : List Prt) (l : List Int) : (reads ps l).1.length ≤ ps.length := by
  have key : ∀ (ps : List Prt) (s : List Prt × List Int × Bool), (ps.foldl rstep s).1.length ≤ s.1.length + ps.length := by
    intro ps
    induction ps with
    | nil => intro s; simp
    | cons p ps ih =>
      intro s
      have h1 := ih (rstep s p)
      have h2 : (rstep s p).1.length ≤ s.1.length + 1 := by
        unfold rstep
        cases (takeOf p s.2.1 s.2.2).1 <;> simp
      rw [List.foldl_cons, List.length_cons]
      omega
  have h := key ps ([], l, false)
  rw [List.length_nil, Nat.zero_add] at h
  exact h
theorem done_two (l : List Int) (gave : Bool) : doneOf l gave = 0 ∨ doneOf l gave = 20 := by
  unfold doneOf
  split
  · exact Or.inr rfl
  · exact Or.inl rfl
set_option maxHeartbeats 4000000 in
theorem reads_walk (a0 : Option Addr) (n0 c0 : Nat) (l : List Int) (a1 : Option Addr) (n1 c1 : Nat) (ps : List Prt) (w : World) (w0 : Txt w (· < w.heap.size) a0 n0 c0 l) (w1 : Prts w (· < w.heap.size) a1 n1 ps) :
    Calls Try.prog 5 #[.slice a0 n0 c0, .slice a1 n1 c1] w fun e w' => e = .returned (.bool true) ∧ Below w.heap.size w w' := by
  have H := Lib.hid w0
  have HP := Lib.hid w1
  clear w0 w1
  by_cases hbig : 1000 < n0
  · have d0 : decide ((1000 : Int) < (n0 : Int)) = true := by simp; omega
    go_enter Try.func5, Try.ntmps5
    go_wp2_with fail
    refine (awake_any _).mono ?_; rintro e w1 ⟨rfl, hg⟩
    have HB1 := Lib.hid hg
    clear hg
    go_wp2
    go_ret
    exact ⟨rfl, HB1.out⟩
  have d0 : decide ((1000 : Int) < (n0 : Int)) = false := by simp; omega
  by_cases hfew : Few ps
  · have HF := Lib.hid hfew
    have hn20 : n1 ≤ 20 := by have := hfew.1; have := HP.out.1; omega
    clear hfew
    go_enter Try.func5, Try.ntmps5
    go_wp2_with fail
    refine (awake_any _).mono ?_; rintro e w1 ⟨rfl, hg⟩
    have HB1 := Lib.hid hg
    clear hg
    go_wp2_with fail
    refine (few_any (HP.out.below HB1.out (fun _ _ h => h))).mono ?_
    rintro e w2 ⟨rfl, rfl⟩
    rw [fewB_true.2 HF.out]
    go_wp2_with fail
    refine (read_any (H.out.below HB1.out (fun _ _ h => h)) (HP.out.below HB1.out (fun _ _ h => h)) (by omega) hn20).mono ?_
    rintro e w3 ⟨qs, v3, rfl, hout, hmap, hbl⟩
    obtain ⟨a3, c3, rfl, hp3⟩ := out_prts hout
    rw [hmap] at hp3
    have hq : qs.length ≤ 20 := by
      have h1 := reads_len ps l
      rw [← hmap, List.length_map] at h1
      have := HP.out.1
      omega
    have PX := Lib.hid hp3.old
    have HB3 : Hid (Below w.heap.size w w3) := Lib.hid (HB1.out.trans (hbl.mono HB1.out.size))
    have HLX : Hid (qs.length = (reads ps l).1.length) := Lib.hid (by rw [← hmap, List.length_map])
    clear hout hmap hbl hp3
    obtain ⟨lx, hlx⟩ : ∃ lx, qs.length = lx := ⟨_, rfl⟩
    rw [hlx] at PX hq HLX
    rw [hlx]
    clear hlx
    obtain ⟨dn, hdn⟩ : ∃ dn, doneOf (reads ps l).2.1 (reads ps l).2.2 = dn := ⟨_, rfl⟩
    rw [hdn]
    have HDN := Lib.hid hdn
    have hd2 : dn = 0 ∨ dn = 20 := by rw [← hdn]; exact done_two _ _
    clear hdn
    go_wp2_with fail
    refine (wanted_any (H.out.below HB3.out (fun _ _ h => h)) (HP.out.below HB3.out (fun _ _ h => h)) (by omega) hn20).mono ?_
    rintro e w4 ⟨rs, v4, rfl, hout, hmap, hbl⟩
    obtain ⟨a4, c4, rfl, hp4⟩ := out_prts hout
    rw [hmap] at hp4
    rw [HDN.out]
    have PX4 := Lib.hid (PX.out.below hbl (fun _ h _ => h)).old
    have PY4 := Lib.hid hp4.old
    have hrl : rs.length = lx := by rw [← List.length_map (f := (·.1)), hmap]; exact HLX.out.symm
    rw [hrl] at PY4
    rw [hrl]
    have HB4 : Hid (Below w.heap.size w w4) := Lib.hid (HB3.out.trans (hbl.mono HB3.out.size))
    clear hout hmap hbl hp4 hrl
    go_wp2_with fail
    refine (same_any PX4.out PY4.out (by omega) (alike_refl _)).mono ?_
    rintro e w5 ⟨rfl, hbl⟩
    have HB5 : Hid (Below w.heap.size w w5) := Lib.hid (HB4.out.trans (hbl.mono HB4.out.size))
    clear hbl
    rcases hd2 with rfl | rfl
    · go_wp2
      go_ret
      exact ⟨rfl, HB5.out⟩
    · go_wp2
      go_ret
      exact ⟨rfl, HB5.out⟩
  · have hfb : fewB ps = false := by
      cases h : fewB ps with
      | true => exact absurd (fewB_true.1 h) hfew
      | false => rfl
    clear hfew
    go_enter Try.func5, Try.ntmps5
    go_wp2_with fail
    refine (awake_any _).mono ?_; rintro e w1 ⟨rfl, hg⟩
    have HB1 := Lib.hid hg
    clear hg
    go_wp2_with fail
    refine (few_any (HP.out.below HB1.out (fun _ _ h => h))).mono ?_
    rintro e w2 ⟨rfl, rfl⟩
    rw [hfb]
    go_wp2
    go_ret
    exact ⟨rfl, HB1.out⟩
end Go.Proofs.Ytkmkccdihoaefaa
