/-
  The walks of the document's answer for layer 2: twice, Int, Text.
-/
import Derived.Test.YtkmkccdihoaefaaRf
namespace Go.Proofs.Ytkmkccdihoaefaa
open Go.RowKit

set_option maxHeartbeats 400000 in
theorem twice_any (n : Int) (w : World) (h0 : -9223372036854775808 ≤ n) (h1 : n ≤ 9223372036854775807) :
    Calls Try.prog 29 #[.int .i64 n] w fun e w' => e = .returned (.int .u64 (Cd.fold n : Nat)) ∧ w = w' := by
  by_cases h : n < 0
  · have HV := Lib.hid (fold_neg h)
    go_enter Try.func29, Try.ntmps29
    go_wp2
    go_ret
    exact ⟨ret_u64 HV.out.symm, rfl⟩
  · have HV := Lib.hid (fold_pos h)
    go_enter Try.func29, Try.ntmps29
    go_wp2
    go_ret
    exact ⟨ret_u64 HV.out.symm, rfl⟩

/-- What holds at the head of each round of the document's Int. -/
def RefRel (w : World) (u : Nat) (s3 s4 : Value) (wr : World) : Prop :=
  ∃ (r : Int) (suf : List Int), s3 = .int .u64 r ∧ 0 ≤ r ∧ r ≤ 18446744073709551615 ∧ wr.ownsRow w.heap.size 5 1 s4 suf.length (nums suf) ∧ Cd.Byt suf ∧ Cd.tops r.toNat ++ suf = Cd.encU u ∧ Below w.heap.size w wr

set_option maxHeartbeats 1000000 in
theorem rint_ref (n : Int) (w : World) (h0 : -9223372036854775808 ≤ n) (h1 : n ≤ 9223372036854775807) :
    Calls Try.prog 13 #[.int .i64 n] w (Made w.heap.size w (Cd.num n)) := by
  obtain ⟨i0, hi0, hz0, hz1, hz2⟩ := info_parts u8_info
  have HI := Lib.hid (And.intro hi0 (And.intro hz0 (And.intro hz1 hz2)))
  clear hi0 hz0 hz1 hz2
  go_enter Try.func13, Try.ntmps13
  go_wp2_with fail
  refine (twice_any n _ h0 h1).mono ?_; rintro e w' ⟨rfl, rfl⟩
  obtain ⟨u, hu⟩ : ∃ u : Int, ((Cd.fold n : Nat) : Int) = u := ⟨_, rfl⟩
  have hu0 : 0 ≤ u := by omega
  have hu1 : u ≤ 18446744073709551615 := by have := Cd.fold_lt h0 h1; omega
  rw [hu]
  have HU : Hid (u.toNat = Cd.fold n) := Lib.hid (by omega)
  clear hu
  have HS : Hid (RefRel w (Cd.fold n) (.int .u64 (u / 128)) (.slice (some ⟨w.heap.size, 0, none⟩) 1 1) (w.alloc (.cells #[.int .u8 (u % 128)] 5))) := Lib.hid (by
    refine ⟨u / 128, [u % 128], rfl, by omega, by omega, World.ownsRow_lit w #[.int .u8 (u % 128)] 1 (Nat.le_refl _) (by unfold maxLen; omega) rfl, Cd.byt_cons (by omega) (by omega) Cd.byt_nil, ?_, below_alloc _ _⟩
    rw [← HU.out]
    unfold Cd.encU
    rw [show (u / 128).toNat = u.toNat / 128 by omega, show ((u.toNat % 128 : Nat) : Int) = u % 128 by omega])
  go_wp2
  go_loopw [3, 4] (fun s3 s4 wr => RefRel w (Cd.fold n) s3 s4 wr) (fun r _ _ => (intOf r).toNat)
  case atStart => exact HS.out
  case round =>
    clear HS
    obtain ⟨r, suf, rfl, hr0, hr1, hown, hb, ht, hbl⟩ := hrel
    have HO := Lib.hid hown
    have HB := Lib.hid hb
    have HT := Lib.hid ht
    have HBL := Lib.hid hbl
    clear hown hb ht hbl
    by_cases c : 0 < r
    · have hsl : suf.length ≤ 10 := by
        have h2 := Cd.encU_len (u := Cd.fold n) (Cd.fold_lt h0 h1)
        rw [← HT.out] at h2
        simp at h2; omega
      obtain ⟨a4, c4, rfl, htx⟩ := Txt.own HO.out HB.out
      have HX := Lib.hid htx
      obtain ⟨k, hk⟩ : ∃ k, suf.length = k := ⟨_, rfl⟩
      rw [hk] at HX HO hsl
      rw [hk]
      have HK := Lib.hid hk
      clear htx hk
      go_wp2_with (at_builtin; refine wpList_append_txt _ rfl (.tmp 21) (.tmp 22) 25 rfl w.heap.size 5 i0 (.int .u8 0) 1 Try.underlying25 HI.out.1 HI.out.2.1 HI.out.2.2.1 HI.out.2.2.2 rfl _ 1 [.int .u8 (r % 128 + 128)] rfl ?c1 (w.heap.size ≤ ·) a4 k c4 suf rfl ?c2 ?c3 ?c4 ?c5 ?_)
      case c1 => exact World.ownsRow_lit wr #[.int .u8 (r % 128 + 128)] 1 HBL.out.size (by unfold maxLen; omega) rfl
      case c2 => exact HX.out.keep (by simp) fun b hb _ => Below.heap_alloc _ _ _ hb
      case c3 => unfold maxLen; omega
      case c4 => omega
      case c5 => have := HBL.out.size; simp; omega
      intro v' w2 hown hg _
      have HR : Hid (RefRel w (Cd.fold n) (.int .u64 (r / 128)) v' w2) := Lib.hid (by
        refine ⟨r / 128, (r % 128 + 128) :: suf, rfl, by omega, by omega, ?_, Cd.byt_cons (by omega) (by omega) HB.out, ?_, ?_⟩
        · rw [List.length_cons, HK.out, Nat.add_comm]
          exact hown
        · rw [← HT.out, Cd.tops_pos (u := r.toNat) (by omega), show (r / 128).toNat = r.toNat / 128 by omega, List.append_assoc]
          congr 1
          show _ = ((r.toNat % 128 + 128 : Nat) : Int) :: suf
          congr 1
          omega
        · exact (HBL.out.alloc HBL.out.size _).grown hg (by have := HBL.out.size; simp; omega) (fun k hk => by simp [Value.ownBlock] at hk; have := HBL.out.size; omega))
      clear hown hg
      go_wp2
      exact ⟨HR.out, by simp [intOf]; omega⟩
    · have hr : r = 0 := by omega
      have HV : Hid (suf = Cd.num n) := Lib.hid (by
        have h1 := HT.out
        rw [hr, show (0 : Int).toNat = 0 by rfl, Cd.tops_zero, List.nil_append] at h1
        exact h1)
      go_wp2
      go_ret
      rw [← HV.out]
      exact ⟨_, rfl, HO.out, HBL.out⟩

set_option maxHeartbeats 400000 in
theorem rtext_ref {S : Nat → Prop} {a : Option Addr} {n c : Nat} {l : List Int} {w : World} (h : Txt w S a n c l) (hn : n ≤ 1000000) :
    Calls Try.prog 14 #[.slice a n c] w (Made w.heap.size w (Cd.num l.length ++ l)) := by
  obtain ⟨i0, hi0, hz0, hz1, hz2⟩ := info_parts u8_info
  have HI := Lib.hid (And.intro hi0 (And.intro hz0 (And.intro hz1 hz2)))
  clear hi0 hz0 hz1 hz2
  have hlen := h.1
  rw [hlen]
  have H := Lib.hid h
  have HL := Lib.hid hlen
  clear h hlen
  go_enter Try.func14, Try.ntmps14
  go_wp2_with fail
  refine (rint_ref (n : Int) w (by omega) (by omega)).mono ?_
  rintro e w1 ⟨v, rfl, hown, hbl⟩
  have hnl : (Cd.num (n : Int)).length ≤ 10 := Cd.num_len (by omega) (by omega)
  have HO := Lib.hid hown
  have HB := Lib.hid hbl
  clear hown hbl
  generalize Cd.num (n : Int) = x at *
  go_wp2_with (at_builtin; refine wpList_append_txt _ rfl (.tmp 5) (.tmp 6) 25 rfl w.heap.size 5 i0 (.int .u8 0) 1 Try.underlying25 HI.out.1 HI.out.2.1 HI.out.2.2.1 HI.out.2.2.2 rfl v x.length (nums x) rfl HO.out (· < w.heap.size) a n c l rfl ?c2 ?c3 ?c4 ?c5 ?_)
  case c2 => exact H.out.old.below HB.out (fun _ _ h => h)
  case c3 => unfold maxLen; omega
  case c4 => omega
  case c5 => exact HB.out.size
  intro v' w2 hown hg _
  have HX : Hid (Made w.heap.size w (x ++ l) (.returned v') w2) := Lib.hid (by
    refine ⟨v', rfl, ?_, HB.out.grown hg HB.out.size (own_ge HO.out)⟩
    rw [List.length_append, HL.out, nums_append]
    exact hown)
  clear hown hg
  go_wp2
  go_ret
  exact HX.out
end Go.Proofs.Ytkmkccdihoaefaa
