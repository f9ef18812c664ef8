/-
  What a crash leaves of a journal.
-/
import Derived.Test.YtfecobkpdmjaeaaQt
namespace Go.Proofs.Ytfecobkpdmjaeaa
set_option linter.unusedVariables false
set_option maxRecDepth 20000
inductive Torns : List (List Int) → List (List Int) → List (List Int) → Prop where
  | nil : Torns [] [] []
  | cons {T N L : List Int} {Ts Ns Ls : List (List Int)} (h : Torn T N L) (hN : Sm N) (hL : Sm L) (r : Torns Ts Ns Ls) : Torns (T :: Ts) (N :: Ns) (L :: Ls)
theorem thru_recs : ∀ (xs : List (List Int)) (s s' : Jl.S), Jl.thru xs s = some s' → ∃ e, s'.recs = s.recs ++ e := by
  intro xs
  induction xs with
  | nil => intro s s' h; cases h; exact ⟨[], by simp⟩
  | cons b t ih =>
    intro s s' h
    unfold Jl.thru at h
    split at h
    · obtain ⟨e, he⟩ := ih _ _ h
      obtain ⟨f, hf, _⟩ := Jl.step_recs s b
      exact ⟨f ++ e, by rw [he, hf, List.append_assoc]⟩
    · cases h
theorem step_least (s : Jl.S) (b : List Int) : (Jl.step s b).least = Jl.lf b 0 := by unfold Jl.step; split <;> rfl
/-- Behind a block of the life, blocks are read as long as they are the new ones. -/
theorem go_new {life : Nat} : ∀ {Ts Ns Ls : List (List Int)} (h : Torns Ts Ns Ls) (q : Nat) (s : Jl.S), s.least = life → (∀ b ∈ Ns.take q, hb b = life ∧ tb b = life) → (∀ b ∈ Ls, hb b < life ∧ tb b < life) → Ns.drop q = Ls.drop q →
    ∃ j s', j ≤ q ∧ Jl.thru (Ns.take j) s = some s' ∧ Jl.go Ts s = s' := by
  intro Ts Ns Ls h
  induction h with
  | nil => intro q s _ _ _ _; exact ⟨0, s, Nat.zero_le _, rfl, rfl⟩
  | @cons T N L Ts Ns Ls ht hN hL hr ih =>
    intro q s hl hn ho hd
    by_cases hg : Jl.good s T
    · have hoL := ho L (by simp)
      cases q with
      | zero =>
        exfalso
        have e : N = L := by simpa using congrArg List.head? hd
        have e2 : T = L := by subst e; exact ht.same
        have h1 := hg.2.2.1
        rw [hl, e2, hL.lf0] at h1
        omega
      | succ q =>
        have hnN := hn N (by simp)
        rcases ht.good hN hL (Or.inr hnN) hoL.2 hg with e | ⟨e, _⟩
        · exfalso
          have h1 := hg.2.2.1
          rw [hl, e, hL.lf0] at h1
          omega
        · subst e
          obtain ⟨j, s', hj, h1, h2⟩ := ih q (Jl.step s T) (by rw [step_least, hN.lf0]; exact hnN.1) (fun b hb => hn b (by simp [hb])) (fun b hb => ho b (by simp [hb])) (by simpa using hd)
          refine ⟨j + 1, s', by omega, ?_, ?_⟩
          · rw [List.take_succ_cons]
            unfold Jl.thru
            rw [if_pos hg]
            exact h1
          · unfold Jl.go
            rw [if_pos hg]
            exact h2
    · exact ⟨0, s, Nat.zero_le _, rfl, go_bad _ _ _ hg⟩
/-- Within a record of an older life none is read to its end. -/
theorem go_old {life : Nat} : ∀ {Ts Ns Ls : List (List Int)} (h : Torns Ts Ns Ls) (q : Nat) (s : Jl.S), s.part ≠ [] → s.least < life → (∀ b ∈ Ns.take q, hb b = life ∧ tb b = life) → (∀ b ∈ Ls, hb b < life ∧ tb b < life) → Ns.drop q = Ls.drop q → (Jl.go Ls s).recs = s.recs →
    (Jl.go Ts s).recs = s.recs := by
  intro Ts Ns Ls h
  induction h with
  | nil => intro q s _ _ _ _ _ h; exact h
  | @cons T N L Ts Ns Ls ht hN hL hr ih =>
    intro q s hp hl hn ho hd hrec
    by_cases hg : Jl.good s T
    · have hoL := ho L (by simp)
      have hNL : N = L ∨ (hb N = life ∧ tb N = life) := by
        cases q with
        | zero => exact Or.inl (by simpa using congrArg List.head? hd)
        | succ q => exact Or.inr (hn N (by simp))
      have hTL : T = L := by
        rcases ht.good hN hL hNL hoL.2 hg with e | ⟨e, e2⟩
        · exact e
        · exfalso
          have h1 := hg.2.2.2.1 hp
          rw [e, hN.lf0] at h1
          omega
      subst hTL
      have hlast : ¬ Jl.byt T 10 = 1 := fun h1 => by
        have := Jl.go_more (t := Ls) hg h1
        rw [hrec] at this
        omega
      have e1 : (Jl.step s T).recs = s.recs := by unfold Jl.step; rw [if_neg hlast]
      have e2 : (Jl.step s T).part ≠ [] := by
        unfold Jl.step
        rw [if_neg hlast]
        exact fun e => Jl.body_some hg hL.blk.1 (List.append_eq_nil_iff.1 e).2
      have hrec' : (Jl.go Ls (Jl.step s T)).recs = (Jl.step s T).recs := by
        rw [e1, ← hrec]
        conv => rhs; unfold Jl.go
        rw [if_pos hg]
      unfold Jl.go
      rw [if_pos hg, ih (q - 1) (Jl.step s T) e2 (by rw [step_least, hL.lf0]; exact hoL.1) (fun b hb => hn b (by
        cases q with
        | zero => simp at hb
        | succ q => simp at hb ⊢; exact Or.inr hb)) (fun b hb => ho b (by simp [hb])) (by
        cases q with
        | zero => simp at hd ⊢; exact hd.2
        | succ q => simpa using hd) hrec', e1]
    · rw [go_bad _ _ _ hg]
/-- Reading what a crash left: a beginning of what was written, if any. -/
theorem go_torn {life : Nat} {Ts Ns Ls : List (List Int)} (h : Torns Ts Ns Ls) (q : Nat) (s s1 : Jl.S) (hp : s.part = []) (hn : ∀ b ∈ Ns.take q, hb b = life ∧ tb b = life) (ho : ∀ b ∈ Ls, hb b < life ∧ tb b < life) (hd : Ns.drop q = Ls.drop q) (hno : (Jl.go Ls s).recs = s.recs) (hth : Jl.thru (Ns.take q) s = some s1) :
    ∃ e f, (Jl.go Ts s).recs = s.recs ++ e ∧ s1.recs = (s.recs ++ e) ++ f := by
  have plain : (Jl.go Ts s).recs = s.recs → ∃ e f, (Jl.go Ts s).recs = s.recs ++ e ∧ s1.recs = (s.recs ++ e) ++ f := fun h1 => by
    obtain ⟨f, hf⟩ := thru_recs _ _ _ hth
    exact ⟨[], f, by simpa using h1, by simpa using hf⟩
  cases h with
  | nil => exact plain rfl
  | @cons T N L Ts Ns Ls ht hN hL hr =>
    by_cases hg : Jl.good s T
    · have hoL := ho L (by simp)
      have hNL : N = L ∨ (hb N = life ∧ tb N = life) := by
        cases q with
        | zero => exact Or.inl (by simpa using congrArg List.head? hd)
        | succ q => exact Or.inr (hn N (by simp))
      have hn' : ∀ b ∈ Ns.take (q - 1), hb b = life ∧ tb b = life := fun b hb => hn b (by
        cases q with
        | zero => simp at hb
        | succ q => simp at hb ⊢; exact Or.inr hb)
      have hd' : Ns.drop (q - 1) = Ls.drop (q - 1) := by
        cases q with
        | zero => simp at hd ⊢; exact hd.2
        | succ q => simpa using hd
      have ho' : ∀ b ∈ Ls, hb b < life ∧ tb b < life := fun b hb => ho b (by simp [hb])
      rcases ht.good hN hL hNL hoL.2 hg with e | ⟨e, e2⟩
      · subst e
        have hlast : ¬ Jl.byt T 10 = 1 := fun h1 => by
          have := Jl.go_more (t := Ls) hg h1
          rw [hno] at this
          omega
        have e1 : (Jl.step s T).recs = s.recs := by unfold Jl.step; rw [if_neg hlast]
        have e2 : (Jl.step s T).part ≠ [] := by
          unfold Jl.step
          rw [if_neg hlast]
          exact fun e => Jl.body_some hg hL.blk.1 (List.append_eq_nil_iff.1 e).2
        have hrec' : (Jl.go Ls (Jl.step s T)).recs = (Jl.step s T).recs := by
          rw [e1, ← hno]
          conv => rhs; unfold Jl.go
          rw [if_pos hg]
        refine plain ?_
        unfold Jl.go
        rw [if_pos hg, go_old hr (q - 1) (Jl.step s T) e2 (by rw [step_least, hL.lf0]; exact hoL.1) hn' ho' hd' hrec', e1]
      · subst e
        cases q with
        | zero =>
          exfalso
          have e3 : T = L := by simpa using congrArg List.head? hd
          rw [e3] at e2
          omega
        | succ q =>
          obtain ⟨j, s', hj, h1, h2⟩ := go_new hr q (Jl.step s T) (by rw [step_least, hN.lf0]; exact e2) (by simpa using hn') ho' (by simpa using hd')
          have hth2 : Jl.thru (Ns.take q) (Jl.step s T) = some s1 := by
            rw [List.take_succ_cons] at hth
            unfold Jl.thru at hth
            rw [if_pos hg] at hth
            exact hth
          have e4 : Ns.take q = Ns.take j ++ (Ns.take q).drop j := by
            have := (List.take_append_drop j (Ns.take q)).symm
            rw [List.take_take, Nat.min_eq_left hj] at this
            exact this
          rw [e4, Jl.thru_app _ _ _ _ h1] at hth2
          obtain ⟨f, hf⟩ := thru_recs _ _ _ hth2
          have hth3 : Jl.thru (T :: Ns.take j) s = some s' := by
            unfold Jl.thru
            rw [if_pos hg]
            exact h1
          obtain ⟨e5, he5⟩ := thru_recs _ _ _ hth3
          refine ⟨e5, f, ?_, by rw [hf, he5]⟩
          unfold Jl.go
          rw [if_pos hg, h2, he5]
    · exact plain (by rw [go_bad _ _ _ hg])
end Go.Proofs.Ytfecobkpdmjaeaa
