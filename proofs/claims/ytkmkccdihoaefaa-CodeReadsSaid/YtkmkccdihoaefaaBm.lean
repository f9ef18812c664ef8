/-
  What is read of what was written; of that and a byte; of all of it but a byte.
-/
import Derived.Test.YtkmkccdihoaefaaAp
namespace Go.Proofs.Ytkmkccdihoaefaa
open Go.RowKit

def Valid (p : Prt) : Prop := 1 ≤ p.k ∧ p.k ≤ 3
instance (p : Prt) : Decidable (Valid p) := by unfold Valid; infer_instance
def askOf (p : Prt) : Prt := ⟨p.k, 0, p.n, if p.k = 2 then 300 else 9223372036854775807, [], zero32⟩
def wantOf (p : Prt) : Prt := if p.k = 1 then mkN p.n else if p.k = 2 then mkB p.b else mkH p.h
def asksOf (ps : List Prt) : List Prt := (ps.filter (fun p => decide (Valid p))).map askOf
def wantsOf (ps : List Prt) : List Prt := (ps.filter (fun p => decide (Valid p))).map wantOf

theorem short_num {n least most : Int} (hn : inI64 n) : Cd.get least most (Cd.num n).dropLast = none := by
  cases hg : Cd.get least most (Cd.num n).dropLast with
  | none => rfl
  | some o =>
    obtain ⟨v, r⟩ := o
    have hne : Cd.num n ≠ [] := fun h => by have := Cd.num_pos n; rw [h] at this; simp at this
    have hb : Cd.Byt (Cd.num n).dropLast := fun x hx => Cd.byt_num n x ((List.dropLast_sublist _).subset hx)
    obtain ⟨h0, h1, _, _, he⟩ := Cd.get_enc hg hb
    have e : Cd.num n = Cd.num v ++ (r ++ [(Cd.num n).getLast hne]) := by
      conv => lhs; rw [← List.dropLast_concat_getLast hne, he]
      rw [List.append_assoc]
    have ht : (Cd.num n).take (Cd.num v).length = Cd.num v := by
      conv => lhs; rw [e]
      exact List.take_left
    have hvn := num_apart ⟨h0, h1⟩ hn ht
    subst hvn
    have := congrArg List.length e
    simp at this
theorem back_take {p : Prt} (hv : Valid p) (hok : p.Ok) (hl : p.b.length ≤ 300) (r : List Int) (gave : Bool) : takeOf (askOf p) (partBytes p ++ r) gave = (some (wantOf p), r, gave) := by
  unfold takeOf partBytes wantOf askOf
  obtain ⟨hv1, hv2⟩ := hv
  by_cases h1 : p.k = 1
  · simp only [h1, if_true]
    rw [Cd.get_num hok.n.1 hok.n.2 (Int.le_refl _) (by have := hok.n.2; simp; omega)]
  · by_cases h2 : p.k = 2
    · simp only [h2, if_true, if_neg (show ¬ (2 : Int) = 1 by omega)]
      have ht : txtOf ((300 : Int).tmod 100000) (Cd.num p.b.length ++ p.b ++ r) = some (p.b, r) := by
        unfold txtOf
        rw [List.append_assoc, Cd.get_num (n := (p.b.length : Int)) (by omega) (by omega) (by omega) (by show (p.b.length : Int) ≤ 300; omega)]
        simp only [Int.toNat_natCast]
        rw [if_pos (by simp; omega), List.take_left, List.drop_left]
      rw [ht]
    · have h3 : p.k = 3 := by omega
      simp only [h3, if_true, if_neg (show ¬ (3 : Int) = 1 by omega), if_neg (show ¬ (3 : Int) = 2 by omega)]
      rw [if_pos (by rw [List.length_append, hok.h]; omega), List.take_append_of_le_length (by rw [hok.h]; omega), List.take_of_length_le (by rw [hok.h]; omega), List.drop_append_of_le_length (by rw [hok.h]; omega), List.drop_of_length_le (by rw [hok.h]; omega)]
      rfl
theorem back_pos {p : Prt} (hv : Valid p) (hok : p.Ok) : partBytes p ≠ [] := by
  intro h
  have hl := congrArg List.length h
  obtain ⟨hv1, hv2⟩ := hv
  unfold partBytes at hl
  by_cases h1 : p.k = 1
  · rw [if_pos h1] at hl
    have := Cd.num_pos p.n
    simp at hl
    rw [hl] at this
    simp at this
  · rw [if_neg h1] at hl
    by_cases h2 : p.k = 2
    · rw [if_pos h2] at hl
      have := Cd.num_pos p.b.length
      simp at hl
      rw [hl.1] at this
      simp at this
    · rw [if_neg h2, if_pos (by omega)] at hl
      have := hok.h
      simp at hl
      rw [hl] at this
      simp at this
theorem back_none {p : Prt} (hv : ¬ Valid p) : partBytes p = [] := by
  unfold partBytes Valid at *
  rw [if_neg (by omega), if_neg (by omega), if_neg (by omega)]
theorem back_lost {p : Prt} (hv : Valid p) (hok : p.Ok) (hl : p.b.length ≤ 300) (gave : Bool) : (takeOf (askOf p) (partBytes p).dropLast gave).2 = ([], true) := by
  unfold takeOf partBytes askOf
  obtain ⟨hv1, hv2⟩ := hv
  by_cases h1 : p.k = 1
  · simp only [h1, if_true]
    rw [short_num hok.n]
  · by_cases h2 : p.k = 2
    · simp only [h2, if_true, if_neg (show ¬ (2 : Int) = 1 by omega)]
      have ht : txtOf ((300 : Int).tmod 100000) (Cd.num p.b.length ++ p.b).dropLast = none := by
        by_cases hb : p.b = []
        · rw [hb, List.append_nil]
          unfold txtOf
          rw [short_num ⟨by simp, by simp⟩]
        · rw [List.dropLast_append_of_ne_nil hb]
          unfold txtOf
          rw [Cd.get_num (n := (p.b.length : Int)) (by omega) (by omega) (by omega) (by show (p.b.length : Int) ≤ 300; omega)]
          have : 0 < p.b.length := List.length_pos_iff.2 hb
          simp only []
          rw [if_neg (by simp; omega)]
      rw [ht]
    · have h3 : p.k = 3 := by omega
      simp only [h3, if_true, if_neg (show ¬ (3 : Int) = 1 by omega), if_neg (show ¬ (3 : Int) = 2 by omega)]
      rw [if_neg (by rw [List.length_dropLast, hok.h]; omega)]
theorem take_lost (q : Prt) : (takeOf q [] true).2 = ([], true) := by
  unfold takeOf
  split
  · rfl
  · split
    · rfl
    · split
      · rfl
      · rfl
theorem fold_lost (qs : List Prt) : ∀ out, (qs.foldl rstep (out, [], true)).2 = ([], true) := by
  induction qs with
  | nil => intro out; rfl
  | cons q qs ih =>
    intro out
    rw [List.foldl_cons]
    have e : rstep (out, [], true) q = (out ++ (takeOf q [] true).1.toList, [], true) := by
      unfold rstep
      have := take_lost q
      rw [show (takeOf q [] true).2.1 = [] from congrArg Prod.fst this, show (takeOf q [] true).2.2 = true from congrArg Prod.snd this]
    rw [e]
    exact ih _
theorem fold_back (ps : List Prt) (hok : ∀ p ∈ ps, p.Ok) (hb : ∀ p ∈ ps, p.b.length ≤ 300) : ∀ out r, (asksOf ps).foldl rstep (out, written ps ++ r, false) = (out ++ wantsOf ps, r, false) := by
  induction ps with
  | nil => intro out r; simp [asksOf, wantsOf, written]
  | cons p ps ih =>
    intro out r
    have ih' := ih (fun q hq => hok q (by simp [hq])) (fun q hq => hb q (by simp [hq]))
    have ew : written (p :: ps) = partBytes p ++ written ps := by simp [written]
    by_cases hv : Valid p
    · have ea : asksOf (p :: ps) = askOf p :: asksOf ps := by simp [asksOf, hv]
      have ex : wantsOf (p :: ps) = wantOf p :: wantsOf ps := by simp [wantsOf, hv]
      rw [ea, ex, ew, List.foldl_cons]
      have e : rstep (out, partBytes p ++ written ps ++ r, false) (askOf p) = (out ++ [wantOf p], written ps ++ r, false) := by
        unfold rstep
        simp only [List.append_assoc]
        rw [back_take hv (hok p (by simp)) (hb p (by simp))]
        rfl
      rw [e, ih', List.append_assoc]
      rfl
    · have ea : asksOf (p :: ps) = asksOf ps := by simp [asksOf, hv]
      have ex : wantsOf (p :: ps) = wantsOf ps := by simp [wantsOf, hv]
      rw [ea, ex, ew, back_none hv, List.nil_append]
      exact ih' out r
theorem fold_short (ps : List Prt) (hok : ∀ p ∈ ps, p.Ok) (hb : ∀ p ∈ ps, p.b.length ≤ 300) : ∀ out, written ps ≠ [] → ((asksOf ps).foldl rstep (out, (written ps).dropLast, false)).2 = ([], true) := by
  induction ps with
  | nil => intro out h; exact absurd rfl h
  | cons p ps ih =>
    intro out h
    have ih' := ih (fun q hq => hok q (by simp [hq])) (fun q hq => hb q (by simp [hq]))
    have ew : written (p :: ps) = partBytes p ++ written ps := by simp [written]
    by_cases hv : Valid p
    · have ea : asksOf (p :: ps) = askOf p :: asksOf ps := by simp [asksOf, hv]
      rw [ea, ew, List.foldl_cons]
      by_cases hw : written ps = []
      · rw [hw, List.append_nil]
        have e : ∃ o, rstep (out, (partBytes p).dropLast, false) (askOf p) = (o, [], true) := by
          unfold rstep
          have := back_lost hv (hok p (by simp)) (hb p (by simp)) false
          simp only []
          exact ⟨_, by rw [show (takeOf (askOf p) (partBytes p).dropLast false).2.1 = [] from congrArg Prod.fst this, show (takeOf (askOf p) (partBytes p).dropLast false).2.2 = true from congrArg Prod.snd this]⟩
        obtain ⟨o, e⟩ := e
        rw [e]
        exact fold_lost _ o
      · rw [List.dropLast_append_of_ne_nil hw]
        have e : rstep (out, partBytes p ++ (written ps).dropLast, false) (askOf p) = (out ++ [wantOf p], (written ps).dropLast, false) := by
          unfold rstep
          simp only []
          rw [back_take hv (hok p (by simp)) (hb p (by simp))]
          rfl
        rw [e]
        exact ih' _ hw
    · have ea : asksOf (p :: ps) = asksOf ps := by simp [asksOf, hv]
      rw [ew, back_none hv, List.nil_append] at h ⊢
      rw [ea]
      exact ih' out h
theorem reads_back {ps : List Prt} (hok : ∀ p ∈ ps, p.Ok) (hf : Few ps) : reads (asksOf ps) (written ps) = (wantsOf ps, [], false) := by
  have := fold_back ps hok hf.2 [] []
  rw [List.append_nil, List.nil_append] at this
  exact this
theorem reads_more {ps : List Prt} (hok : ∀ p ∈ ps, p.Ok) (hf : Few ps) (y : Int) : reads (asksOf ps) (written ps ++ [y]) = (wantsOf ps, [y], false) := by
  have := fold_back ps hok hf.2 [] [y]
  rw [List.nil_append] at this
  exact this
theorem reads_fewer {ps : List Prt} (hok : ∀ p ∈ ps, p.Ok) (hf : Few ps) (hne : written ps ≠ []) : doneOf (reads (asksOf ps) (written ps).dropLast).2.1 (reads (asksOf ps) (written ps).dropLast).2.2 = 20 := by
  have := fold_short ps hok hf.2 [] hne
  unfold reads
  rw [this]
  rfl
end Go.Proofs.Ytkmkccdihoaefaa
