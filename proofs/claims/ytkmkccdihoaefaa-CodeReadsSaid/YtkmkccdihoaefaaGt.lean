/-
  The walk of the document's GetText.
-/
import Derived.Test.YtkmkccdihoaefaaGw
set_option linter.unusedSimpArgs false
namespace Go.Proofs.Ytkmkccdihoaefaa
open Go.RowKit
theorem sz_u8' (w : World) : (sizeOf 5).run Try.prog w = .ok 1 w := by
  obtain ⟨i, h1, _, h2, _⟩ := info_parts u8_info
  simp [sizeOf, typeInfo, h1, h2]
theorem slice_in {a : Option Addr} {n c i j : Nat} (h1 : i ≤ j) (h2 : j ≤ c) (w : World) : (Instr.slice 25 (.slice a n c) (some (.int .i64 (i : Int))) (some (.int .i64 (j : Int))) none).run Try.prog w = .ok (.slice (if c = i then a else a.map (·.add i)) (j - i) (c - i)) w := by
  have hb : (0 : Int) ≤ (j : Int) ∧ (j : Int) ≤ (c : Int) := by omega
  have ha : (0 : Int) ≤ (i : Int) ∧ (i : Int) ≤ (j : Int) := by omega
  simp only [Instr.slice, Instr.sliceBounds, Instr.sliceBound, Sem.run_bind, Sem.run_pure, Result.andThen_ok, run_underlying Try.underlying25, asIntOf, if_pos hb, if_pos ha, sz_u8' w, Int.toNat_natCast, Nat.mul_one]
def GotT (w : World) (S : Nat → Prop) (l : List Int) (o : Option (List Int × List Int)) (e : Ending) (w' : World) : Prop :=
  Below w.heap.size w w' ∧ match o with
  | some (t, r) => ∃ a c, e = .returned (.tuple #[.slice a t.length c, .int .i64 ((l.length - r.length : Nat) : Int)]) ∧ Txt w' S a t.length c t ∧ r.length < l.length ∧ r = l.drop (l.length - r.length)
  | none => e = .returned (.tuple #[.slice none 0 0, .int .i64 0])
theorem got_no {w w' : World} {S : Nat → Prop} {l : List Int} {o : Option (List Int × List Int)} (h : o = none) (hb : Below w.heap.size w w') : GotT w S l o (.returned (.tuple #[.slice none 0 0, .int .i64 0])) w' := by
  subst h; exact ⟨hb, rfl⟩
set_option maxHeartbeats 2000000 in
theorem gettext_ref {S : Nat → Prop} {a : Option Addr} {n c : Nat} {l : List Int} {w : World} (most : Int) (h : Txt w S a n c l) (hn : n ≤ 1000000) :
    Calls Try.prog 32 #[.slice a n c, .int .i64 most] w (GotT w S l (txtOf most l)) := by
  have H := Lib.hid h
  have HLN := Lib.hid h.1
  have HB := Lib.hid h.2.2.1
  have hcap : n ≤ c := h.2.1
  clear h
  cases hp : Cd.parse l with
  | none =>
    have HN : Hid (txtOf most l = none) := Lib.hid (by unfold txtOf Cd.get; rw [hp])
    have HG : Hid (Cd.getN l = (0, 0)) := Lib.hid (Cd.getN_none hp)
    clear hp
    go_enter Try.func32, Try.ntmps32
    go_wp2_with fail
    refine (get_ref H.out hn).mono ?_
    rintro e w1 ⟨he, hb⟩
    rw [HG.out] at he
    subst he
    have HB1 := Lib.hid hb
    clear hb
    have e0 : (((0 : Nat) : Int) == 0) = true := by rfl
    go_wp2
    go_ret2
    exact got_no HN.out HB1.out
  | some o =>
    obtain ⟨u, r⟩ := o
    obtain ⟨hu0, hu1, he⟩ := Cd.parse_enc hp HB.out
    have hep := Cd.encU_pos u.toNat
    have hll : n = (Cd.encU u.toNat).length + r.length := by rw [← HLN.out, he, List.length_append]
    obtain ⟨k, hk⟩ : ∃ k, (Cd.encU u.toNat).length = k := ⟨_, rfl⟩
    rw [hk] at hep hll
    have hrd : l.drop k = r := by rw [he, ← hk, List.drop_left]
    have hnr : l.length - r.length = k := by rw [HLN.out]; omega
    obtain ⟨v, hv⟩ : ∃ v, Cd.unfold u.toNat = v := ⟨_, rfl⟩
    have hvr := Cd.unfold_range (u := u.toNat) (by omega)
    rw [hv] at hvr
    have HG : Hid (Cd.getN l = (v, k)) := Lib.hid (by unfold Cd.getN; rw [hp]; simp only []; rw [hv, hnr])
    have HGT : Hid (txtOf most l = if 0 ≤ v ∧ v ≤ most then (if v ≤ r.length then some (r.take v.toNat, r.drop v.toNat) else none) else none) := Lib.hid (by
      unfold txtOf Cd.get
      rw [hp]
      simp only []
      rw [hv]
      by_cases hc : 0 ≤ v ∧ v ≤ most
      · rw [if_pos hc, if_pos hc]
      · rw [if_neg hc, if_neg hc])
    obtain ⟨m, hm⟩ : ∃ m, r.length = m := ⟨_, rfl⟩
    rw [hm] at hll
    have HM := Lib.hid hm
    have HRD := Lib.hid hrd
    have hv0 := hvr.1
    have hv1 := hvr.2
    have hk1 : ((k : Int) == 0) = false := by rw [beq_eq_false_iff_ne]; omega
    have hl1 : n ≤ k + m := by omega
    have hl2 : k + m ≤ n := by omega
    clear hp he hk hnr hv hu0 hu1 hrd hm hvr hll
    by_cases c1 : v < 0
    · have HN : Hid (txtOf most l = none) := Lib.hid (by rw [HGT.out, if_neg (by omega)])
      go_enter Try.func32, Try.ntmps32
      go_wp2_with fail
      refine (get_ref H.out hn).mono ?_
      rintro e w1 ⟨he, hb⟩
      rw [HG.out] at he
      subst he
      have HB1 := Lib.hid hb
      clear hb
      go_wp2
      go_ret2
      exact got_no HN.out HB1.out
    by_cases c2 : most < v
    · have HN : Hid (txtOf most l = none) := Lib.hid (by rw [HGT.out, if_neg (by omega)])
      go_enter Try.func32, Try.ntmps32
      go_wp2_with fail
      refine (get_ref H.out hn).mono ?_
      rintro e w1 ⟨he, hb⟩
      rw [HG.out] at he
      subst he
      have HB1 := Lib.hid hb
      clear hb
      go_wp2
      go_ret2
      exact got_no HN.out HB1.out
    have esub : IntKind.i64.wrap ((n : Int) - (k : Int)) = (n : Int) - (k : Int) := IntWalk.i64_in _ (by omega)
    by_cases c3 : (n : Int) - (k : Int) < v
    · have HN : Hid (txtOf most l = none) := Lib.hid (by rw [HGT.out, if_pos (by omega), if_neg (by rw [HM.out]; omega)])
      go_enter Try.func32, Try.ntmps32
      go_wp2_with fail
      refine (get_ref H.out hn).mono ?_
      rintro e w1 ⟨he, hb⟩
      rw [HG.out] at he
      subst he
      have HB1 := Lib.hid hb
      clear hb
      go_wp2
      go_ret2
      exact got_no HN.out HB1.out
    · obtain ⟨t, rfl⟩ : ∃ t : Nat, v = (t : Int) := ⟨v.toNat, by omega⟩
      have HS : Hid (txtOf most l = some (r.take t, r.drop t)) := Lib.hid (by rw [HGT.out, if_pos (by omega), if_pos (by rw [HM.out]; omega)]; simp)
      obtain ⟨A, hsl, HTT⟩ : ∃ A, (∀ w, (Instr.slice 25 (.slice a n c) (some (.int .i64 (k : Int))) (some (.int .i64 ((k : Int) + (t : Int)))) none).run Try.prog w = .ok (.slice A t (c - k)) w) ∧ Hid (Txt w S A t (c - k) (r.take t)) := by
        refine ⟨if c = k then a else a.map (·.add k), fun w => ?_, Lib.hid ?_⟩
        · have := slice_in (a := a) (n := n) (c := c) (i := k) (j := k + t) (by omega) (by omega) w
          rw [Nat.add_sub_cancel_left] at this
          exact this
        · have := (H.out.drop k (by omega)).take t (by omega)
          rw [HRD.out] at this
          exact this
      have esum : IntKind.i64.wrap ((k : Int) + (t : Int)) = (k : Int) + (t : Int) := IntWalk.i64_in _ (by omega)
      go_enter Try.func32, Try.ntmps32
      go_wp2_with fail
      refine (get_ref H.out hn).mono ?_
      rintro e w1 ⟨he, hb⟩
      rw [HG.out] at he
      subst he
      have HB1 := Lib.hid hb
      clear hb
      go_wp2
      go_ret2
      have hlen : (r.take t).length = t := by rw [List.length_take, HM.out]; omega
      have hlen2 : l.length - (r.drop t).length = k + t := by rw [HLN.out, List.length_drop, HM.out]; omega
      refine ⟨HB1.out, ?_⟩
      rw [HS.out]
      refine ⟨A, c - k, ?_, ?_, by rw [HLN.out, List.length_drop, HM.out]; omega, ?_⟩
      · rw [hlen, hlen2]
        rfl
      · rw [hlen]
        exact HTT.out.below HB1.out (fun _ h _ => h)
      · rw [hlen2, ← HRD.out, List.drop_drop]
end Go.Proofs.Ytkmkccdihoaefaa
