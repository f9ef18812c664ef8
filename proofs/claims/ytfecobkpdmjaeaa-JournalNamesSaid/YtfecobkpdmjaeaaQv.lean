/-
  A journal that is written, forced, and crashed.
-/
import Derived.Test.YtfecobkpdmjaeaaQu
import Derived.Test.YtfecobkpdmjaeaaQr
namespace Go.Proofs.Ytfecobkpdmjaeaa
set_option linter.unusedVariables false
set_option maxRecDepth 20000
theorem go_first : ∀ (bs : List (List Int)) (s : Jl.S), ((Jl.go bs s).recs = s.recs ∧ (Jl.go bs s).used = s.used) ∨ ∃ k a x, 0 < k ∧ k ≤ bs.length ∧ Jl.thru (bs.take k) s = some ⟨a, [], s.recs ++ [x], s.pos + k, s.pos + k⟩ := by
  intro bs
  induction bs with
  | nil => intro s; exact Or.inl ⟨rfl, rfl⟩
  | cons b t ih =>
    intro s
    by_cases hg : Jl.good s b
    · by_cases hl : Jl.byt b 10 = 1
      · refine Or.inr ⟨1, Jl.lf b 0, s.part ++ Jl.body b, by omega, by simp, ?_⟩
        show (if Jl.good s b then Jl.thru [] (Jl.step s b) else none) = _
        rw [if_pos hg]
        unfold Jl.step
        rw [if_pos hl]
        rfl
      · have e : (Jl.step s b).recs = s.recs ∧ (Jl.step s b).used = s.used ∧ (Jl.step s b).pos = s.pos + 1 := by
          unfold Jl.step
          rw [if_neg hl]
          exact ⟨rfl, rfl, rfl⟩
        have e2 : Jl.go (b :: t) s = Jl.go t (Jl.step s b) := by
          conv => lhs; unfold Jl.go
          rw [if_pos hg]
        rcases ih (Jl.step s b) with ⟨h1, h2⟩ | ⟨k, a, x, h0, h1, h2⟩
        · exact Or.inl ⟨by rw [e2, h1, e.1], by rw [e2, h2, e.2.1]⟩
        · refine Or.inr ⟨k + 1, a, x, by omega, by simp; omega, ?_⟩
          rw [e.1, e.2.2] at h2
          rw [List.take_succ_cons]
          unfold Jl.thru
          rw [if_pos hg, h2, Nat.add_assoc, Nat.add_comm 1 k]
    · exact Or.inl ⟨by rw [go_bad _ _ _ hg], by rw [go_bad _ _ _ hg]⟩
theorem go_split : ∀ (n : Nat) (bs : List (List Int)) (s : Jl.S), bs.length ≤ n → s.part = [] → s.used = s.pos → ∃ k a, k ≤ bs.length ∧ Jl.thru (bs.take k) s = some ⟨a, [], (Jl.go bs s).recs, s.pos + k, s.pos + k⟩ ∧ (Jl.go bs s).used = s.pos + k ∧ (Jl.go (bs.drop k) ⟨a, [], (Jl.go bs s).recs, s.pos + k, s.pos + k⟩).recs = (Jl.go bs s).recs := by
  intro n
  induction n with
  | zero =>
    intro bs s hl hp hu
    obtain rfl : bs = [] := List.eq_nil_of_length_eq_zero (by omega)
    obtain ⟨a, p, r, u, q⟩ := s
    simp only at hp hu
    subst hp hu
    exact ⟨0, a, Nat.le_refl _, rfl, rfl, rfl⟩
  | succ n ih =>
    intro bs s hl hp hu
    obtain ⟨a0, p, r, u, q⟩ := s
    simp only at hp hu
    subst hp hu
    rcases go_first bs ⟨a0, [], r, u, u⟩ with ⟨h1, h2⟩ | ⟨k, a, x, h0, h1, h2⟩
    · refine ⟨0, a0, Nat.zero_le _, ?_, h2, ?_⟩
      · rw [h1]; rfl
      · rw [h1]
        exact h1
    · simp only at h2
      have e : Jl.go bs ⟨a0, [], r, u, u⟩ = Jl.go (bs.drop k) ⟨a, [], r ++ [x], u + k, u + k⟩ := by
        have := Jl.go_thru (bs.take k) (bs.drop k) _ _ h2
        rw [List.take_append_drop] at this
        exact this
      obtain ⟨k2, a2, g1, g2, g3, g4⟩ := ih (bs.drop k) ⟨a, [], r ++ [x], u + k, u + k⟩ (by rw [List.length_drop]; omega) rfl rfl
      simp only at g2 g3 g4
      refine ⟨k + k2, a2, by rw [List.length_drop] at g1; omega, ?_, ?_, ?_⟩
      · rw [e, List.take_add, Jl.thru_app _ _ _ _ h2, g2]
        simp only [Nat.add_assoc]
      · rw [e, g3]
        simp only [Nat.add_assoc]
      · rw [List.drop_drop] at g4
        rw [e]
        simp only [Nat.add_assoc] at g4 ⊢
        exact g4
theorem thru_least : ∀ (xs : List (List Int)) (s s' : Jl.S), Jl.thru xs s = some s' → s'.least ≤ max s.least (grt xs) := by
  intro xs
  induction xs with
  | nil => intro s s' h; cases h; omega
  | cons b t ih =>
    intro s s' h
    unfold Jl.thru at h
    split at h
    · have := ih _ _ h
      rw [step_least, lf_hd] at this
      rw [grt_cons]
      omega
    · cases h
theorem grt_take (bs : List (List Int)) (k : Nat) : grt (bs.take k) ≤ grt bs := by
  have := grt_app (bs.take k) (bs.drop k)
  rw [List.take_append_drop] at this
  omega
theorem grt_mem {bs : List (List Int)} {b : List Int} (h : b ∈ bs) : cap (hd b) ≤ grt bs ∧ cap (tl b) ≤ grt bs := by
  induction bs with
  | nil => cases h
  | cons c cs ih =>
    rw [grt_cons]
    rcases List.mem_cons.1 h with rfl | h
    · omega
    · have := ih h; omega
theorem grt_has (bs : List (List Int)) : grt bs = 0 ∨ ∃ b ∈ bs, cap (hd b) = grt bs ∨ cap (tl b) = grt bs := by
  induction bs with
  | nil => exact Or.inl rfl
  | cons c cs ih =>
    by_cases h : grt cs < max (cap (hd c)) (cap (tl c))
    · have e : grt (c :: cs) = max (cap (hd c)) (cap (tl c)) := by rw [grt_cons]; omega
      exact Or.inr ⟨c, by simp, by rw [e]; omega⟩
    · have e : grt (c :: cs) = grt cs := by rw [grt_cons]; omega
      rcases ih with h1 | ⟨b, hb, h1⟩
      · exact Or.inl (by rw [e, h1])
      · exact Or.inr ⟨b, by simp [hb], by rw [e]; exact h1⟩
theorem grt_up {bs : List (List Int)} {l : Nat} (h : ∀ b ∈ bs, cap (hd b) ≤ l ∧ cap (tl b) ≤ l) : grt bs ≤ l := by
  rcases grt_has bs with h1 | ⟨b, hb, h1 | h1⟩
  · omega
  · rw [← h1]; exact (h b hb).1
  · rw [← h1]; exact (h b hb).2
structure Wal (Ns Ls : List (List Int)) (recs : List (List Int)) (used F life : Nat) : Prop where
  len : Ns.length = Ls.length
  smN : ∀ b ∈ Ns, Sm b
  smL : ∀ b ∈ Ls, Sm b
  leN : ∀ b ∈ Ns, hb b ≤ life ∧ tb b ≤ life
  leL : ∀ b ∈ Ls, hb b ≤ life ∧ tb b ≤ life
  lf : 1 ≤ life
  forced : F ≤ recs.length
  is : ∃ u0 a a', u0 ≤ used ∧ used ≤ Ns.length ∧ a ≤ life ∧ a' ≤ life ∧ Ns.take u0 = Ls.take u0 ∧ Jl.thru (Ns.take u0) (J0 0) = some ⟨a, [], recs.take F, u0, u0⟩ ∧ (Jl.go (Ls.drop u0) ⟨a, [], recs.take F, u0, u0⟩).recs = recs.take F ∧ Jl.thru ((Ns.drop u0).take (used - u0)) ⟨a, [], recs.take F, u0, u0⟩ = some ⟨a', [], recs, used, used⟩ ∧ (∀ b ∈ (Ns.drop u0).take (used - u0), hb b = life ∧ tb b = life) ∧ Ns.drop used = Ls.drop used ∧ (∀ b ∈ Ls.drop u0, hb b < life ∧ tb b < life) ∧ ((used = u0 ∧ a' = a) ∨ a' = life)
  top : life = 1 ∨ ∃ (i : Nat) (N L : List Int), Ns[i]? = some N ∧ Ls[i]? = some L ∧ ((life ≤ hb N + 1 ∧ life ≤ hb L + 1) ∨ (life ≤ tb N + 1 ∧ life ≤ tb L + 1))
theorem wal_open {bs : List (List Int)} (h : ∀ b ∈ bs, Sm b) : Wal bs bs (Jl.go bs (J0 0)).recs (Jl.go bs (J0 0)).used (Jl.go bs (J0 0)).recs.length (grt bs + 1) := by
  have hle : ∀ b ∈ bs, hb b ≤ grt bs ∧ tb b ≤ grt bs := fun b hb' => by
    have h1 := grt_mem hb'
    rw [(h b hb').caps.1, (h b hb').caps.2] at h1
    exact h1
  obtain ⟨k, a, h1, h2, h3, h4⟩ := go_split bs.length bs (J0 0) (Nat.le_refl _) rfl rfl
  have e0 : (J0 0).pos + k = k := Nat.zero_add k
  rw [e0] at h2 h3 h4
  have ha := thru_least _ _ _ h2
  have ha' : a ≤ grt bs := by
    have h5 := grt_take bs k
    have h6 : (J0 0).least = 0 := rfl
    rw [h6] at ha
    simp only at ha
    omega
  refine ⟨rfl, h, h, fun b hb' => by have := hle b hb'; omega, fun b hb' => by have := hle b hb'; omega, by omega, Nat.le_refl _, ⟨k, a, a, by rw [h3]; exact Nat.le_refl _, by rw [h3]; exact h1, by omega, by omega, rfl, by rw [List.take_length]; exact h2, by rw [List.take_length]; exact h4, ?_, ?_, rfl, fun b hb' => by have := hle b (List.mem_of_mem_drop hb'); omega, Or.inl ⟨h3, rfl⟩⟩, ?_⟩
  · rw [h3, Nat.sub_self, List.take_zero, List.take_length]; rfl
  · rw [h3, Nat.sub_self, List.take_zero]; intro b hb'; cases hb'
  · rcases grt_has bs with h5 | ⟨b, hb', h5⟩
    · exact Or.inl (by rw [h5])
    · obtain ⟨i, hi⟩ := List.getElem?_of_mem hb'
      refine Or.inr ⟨i, b, b, hi, hi, ?_⟩
      rw [(h b hb').caps.1, (h b hb').caps.2] at h5
      rcases h5 with h5 | h5
      · exact Or.inl (by omega)
      · exact Or.inr (by omega)
theorem pieces_sm {r : List Int} {l : Nat} (hr : Byt r) (hl : l < 256) : ∀ b ∈ Jl.pieces r l, Sm b ∧ hb b = l ∧ tb b = l := by
  intro b hb'
  obtain ⟨i, _, rfl⟩ := List.mem_map.1 hb'
  exact block_sm hr hl
theorem wal_append {Ns Ls : List (List Int)} {recs : List (List Int)} {used F life : Nat} {r : List Int} (h : Wal Ns Ls recs used F life) (hr : r ≠ []) (hB : Byt r) (hl : life < 256) (hn : used + Jl.need r ≤ Ns.length) :
    Wal (Ns.take used ++ (Jl.pieces r life ++ Ns.drop (used + Jl.need r))) Ls (recs ++ [r]) (used + Jl.need r) F life := by
  obtain ⟨u0, a, a', h1, h2, h3, h4, h5, h6, h7, h8, h9, h10, h11, h12⟩ := h.is
  have hp := pieces_sm hB hl
  have hpl := pieces_len r life
  have hlt : (Ns.take used).length = used := by rw [List.length_take]; omega
  have hF : (recs ++ [r]).take F = recs.take F := List.take_append_of_le_length h.forced
  have mem : ∀ b ∈ Ns.take used ++ (Jl.pieces r life ++ Ns.drop (used + Jl.need r)), b ∈ Ns ∨ b ∈ Jl.pieces r life := fun b hb' => by
    rcases List.mem_append.1 hb' with h | h
    · exact Or.inl (List.mem_of_mem_take h)
    · rcases List.mem_append.1 h with h | h
      · exact Or.inr h
      · exact Or.inl (List.mem_of_mem_drop h)
  have e1 : (Ns.take used ++ (Jl.pieces r life ++ Ns.drop (used + Jl.need r))).take u0 = Ns.take u0 := by
    rw [List.take_append_of_le_length (by omega), List.take_take, Nat.min_eq_left h1]
  have e2 : ((Ns.take used ++ (Jl.pieces r life ++ Ns.drop (used + Jl.need r))).drop u0).take (used + Jl.need r - u0) = (Ns.drop u0).take (used - u0) ++ Jl.pieces r life := by
    rw [List.drop_append_of_le_length (by omega), List.drop_take, List.take_append, List.length_take, List.length_drop, List.take_of_length_le (by rw [List.length_take, List.length_drop]; omega)]
    congr 1
    rw [List.take_append_of_le_length (by omega), List.take_of_length_le (by omega)]
  refine ⟨by rw [List.length_append, List.length_append, hlt, hpl, List.length_drop, ← h.len]; omega, fun b hb' => ?_, h.smL, fun b hb' => ?_, h.leL, h.lf, by rw [List.length_append]; have := h.forced; omega, ⟨u0, a, life, by omega, by rw [List.length_append, List.length_append, hlt, hpl, List.length_drop]; omega, h3, Nat.le_refl _, by rw [e1]; exact h5, by rw [e1, hF]; exact h6, by rw [hF]; exact h7, ?_, ?_, ?_, h11, Or.inr rfl⟩, ?_⟩
  · rcases mem b hb' with h | h'
    · exact (‹Wal _ _ _ _ _ _›).smN b h
    · exact (hp b h').1
  · rcases mem b hb' with h | h'
    · exact (‹Wal _ _ _ _ _ _›).leN b h
    · have := (hp b h').2; omega
  · rw [e2, hF, Jl.thru_app _ _ _ _ h8]
    exact Jl.pieces_thru hr h.lf (by omega) (s := ⟨a', [], recs, used, used⟩) h4 rfl
  · rw [e2]
    intro b hb'
    rcases List.mem_append.1 hb' with h | h
    · exact h9 b h
    · exact (hp b h).2
  · rw [List.drop_append, List.drop_of_length_le (by omega), List.nil_append, hlt, List.drop_append, List.drop_of_length_le (by omega), List.nil_append, hpl, List.drop_drop]
    have := congrArg (List.drop (Jl.need r)) h10
    rw [List.drop_drop, List.drop_drop] at this
    rw [show used + Jl.need r + (used + Jl.need r - used - Jl.need r) = used + Jl.need r by omega]
    exact this
  · rcases h.top with h13 | ⟨i, N, L, g1, g2, g3⟩
    · exact Or.inl h13
    · refine Or.inr ?_
      by_cases c1 : used ≤ i ∧ i < used + Jl.need r
      · have hget : (Ns.take used ++ (Jl.pieces r life ++ Ns.drop (used + Jl.need r)))[i]? = (Jl.pieces r life)[i - used]? := by
          rw [List.getElem?_append_right (by omega), hlt, List.getElem?_append_left (by omega)]
        obtain ⟨b, hb'⟩ : ∃ b, (Jl.pieces r life)[i - used]? = some b := ⟨_, List.getElem?_eq_getElem (by omega)⟩
        have := (hp b (List.mem_of_getElem? hb')).2
        exact ⟨i, b, L, by rw [hget]; exact hb', g2, by omega⟩
      · have hget : (Ns.take used ++ (Jl.pieces r life ++ Ns.drop (used + Jl.need r)))[i]? = Ns[i]? := by
          by_cases c2 : i < used
          · rw [List.getElem?_append_left (by omega), List.getElem?_take, if_pos c2]
          · rw [List.getElem?_append_right (by omega), hlt, List.getElem?_append_right (by omega), hpl, List.getElem?_drop]
            congr 1
            omega
        exact ⟨i, N, L, by rw [hget]; exact g1, g2, g3⟩
theorem wal_force {Ns Ls : List (List Int)} {recs : List (List Int)} {used F life : Nat} (h : Wal Ns Ls recs used F life) : Wal Ns Ns recs used recs.length life := by
  obtain ⟨u0, a, a', h1, h2, h3, h4, h5, h6, h7, h8, h9, h10, h11, h12⟩ := h.is
  have hth : Jl.thru (Ns.take used) (J0 0) = some ⟨a', [], recs, used, used⟩ := by
    have e : Ns.take used = Ns.take u0 ++ (Ns.drop u0).take (used - u0) := by
      have := List.take_add (l := Ns) (i := u0) (j := used - u0)
      rw [show u0 + (used - u0) = used by omega] at this
      exact this
    rw [e, Jl.thru_app _ _ _ _ h6, h8]
  have hold : ∀ b ∈ Ns.drop used, hb b < life ∧ tb b < life := fun b hb' => by
    rw [h10] at hb'
    refine h11 b ?_
    have e : Ls.drop used = (Ls.drop u0).drop (used - u0) := by rw [List.drop_drop]; congr 1; omega
    rw [e] at hb'
    exact List.mem_of_mem_drop hb'
  refine ⟨rfl, h.smN, h.smN, h.leN, h.leN, h.lf, Nat.le_refl _, ⟨used, a', a', Nat.le_refl _, h2, h4, h4, rfl, by rw [List.take_length]; exact hth, ?_, by rw [List.take_length, Nat.sub_self, List.take_zero]; rfl, (by rw [Nat.sub_self, List.take_zero]; intro b hb'; cases hb'), rfl, hold, Or.inl ⟨rfl, rfl⟩⟩, ?_⟩
  · rw [List.take_length]
    rcases h12 with ⟨e1, e2⟩ | e2
    · subst e1
      subst e2
      rw [Nat.sub_self, List.take_zero] at h8
      have e3 : recs.take F = recs := by
        have h13 : (some (⟨a', [], recs.take F, used, used⟩ : Jl.S)) = some ⟨a', [], recs, used, used⟩ := h8
        injection h13 with h13
        injection h13
      rw [e3] at h7
      rw [h10]
      exact h7
    · cases hd : Ns.drop used with
      | nil => rfl
      | cons b t =>
        rw [go_bad]
        intro hg
        have hb1 : b ∈ Ns.drop used := by rw [hd]; simp
        have := hg.2.2.1
        rw [(h.smN b (List.mem_of_mem_drop hb1)).lf0] at this
        have h14 := hold b hb1
        simp only at this
        omega
  · rcases h.top with h13 | ⟨i, N, L, g1, g2, g3⟩
    · exact Or.inl h13
    · exact Or.inr ⟨i, N, N, g1, g1, by rcases g3 with g | g; exact Or.inl ⟨g.1, g.1⟩; exact Or.inr ⟨g.1, g.1⟩⟩
theorem Torns.get {Ts Ns Ls : List (List Int)} (h : Torns Ts Ns Ls) : Ts.length = Ns.length ∧ ∀ (i : Nat) (N L : List Int), Ns[i]? = some N → Ls[i]? = some L → ∃ T, Ts[i]? = some T ∧ Torn T N L := by
  induction h with
  | nil => exact ⟨rfl, fun i N L h => by simp at h⟩
  | cons ht hN hL hr ih =>
    refine ⟨by simp [ih.1], fun i N L h1 h2 => ?_⟩
    cases i with
    | zero =>
      simp at h1 h2
      subst h1 h2
      exact ⟨_, rfl, ht⟩
    | succ i =>
      simp at h1 h2
      obtain ⟨T, g1, g2⟩ := ih.2 i N L h1 h2
      exact ⟨T, by simpa using g1, g2⟩
theorem Torns.sm {Ts Ns Ls : List (List Int)} (h : Torns Ts Ns Ls) : ∀ T ∈ Ts, Sm T := by
  induction h with
  | nil => intro T h; cases h
  | cons ht hN hL hr ih =>
    intro T h
    rcases List.mem_cons.1 h with rfl | h
    · exact (ht.sm hN hL).1
    · exact ih T h
theorem Torns.le {life : Nat} {Ts Ns Ls : List (List Int)} (h : Torns Ts Ns Ls) (h1 : ∀ b ∈ Ns, hb b ≤ life ∧ tb b ≤ life) (h2 : ∀ b ∈ Ls, hb b ≤ life ∧ tb b ≤ life) : ∀ T ∈ Ts, hb T ≤ life ∧ tb T ≤ life := by
  induction h with
  | nil => intro T h; cases h
  | @cons T N L Ts Ns Ls ht hN hL hr ih =>
    intro T' h
    rcases List.mem_cons.1 h with rfl | h
    · have a1 := h1 N (by simp)
      have a2 := h2 L (by simp)
      obtain ⟨_, h3, h4⟩ := ht.sm hN hL
      exact ⟨by rcases h3 with h | h <;> omega, by rcases h4 with h | h <;> omega⟩
    · exact ih (fun b hb' => h1 b (by simp [hb'])) (fun b hb' => h2 b (by simp [hb'])) T' h
theorem Torns.drop {Ts Ns Ls : List (List Int)} (h : Torns Ts Ns Ls) (k : Nat) : Torns (Ts.drop k) (Ns.drop k) (Ls.drop k) := by
  induction h generalizing k with
  | nil => simpa using Torns.nil
  | cons ht hN hL hr ih =>
    cases k with
    | zero => exact Torns.cons ht hN hL hr
    | succ k => simpa using ih k
theorem Torns.same {Ts Ns Ls : List (List Int)} (h : Torns Ts Ns Ls) (k : Nat) (he : Ns.take k = Ls.take k) : Ts.take k = Ns.take k := by
  induction h generalizing k with
  | nil => rfl
  | cons ht hN hL hr ih =>
    cases k with
    | zero => rfl
    | succ k =>
      rw [List.take_succ_cons, List.take_succ_cons] at he
      injection he with he1 he2
      subst he1
      rw [List.take_succ_cons, List.take_succ_cons, ih k he2, ht.same]
theorem wal_crash {Ns Ls Ts : List (List Int)} {recs : List (List Int)} {used F life : Nat} (h : Wal Ns Ls recs used F life) (ht : Torns Ts Ns Ls) :
    F ≤ (Jl.go Ts (J0 0)).recs.length ∧ (Jl.go Ts (J0 0)).recs.length ≤ recs.length ∧ (Jl.go Ts (J0 0)).recs = recs.take (Jl.go Ts (J0 0)).recs.length ∧ life ≤ grt Ts + 1 ∧ grt Ts ≤ life := by
  obtain ⟨u0, a, a', h1, h2, h3, h4, h5, h6, h7, h8, h9, h10, h11, h12⟩ := h.is
  have hd : (Ns.drop u0).drop (used - u0) = (Ls.drop u0).drop (used - u0) := by
    rw [List.drop_drop, List.drop_drop, show u0 + (used - u0) = used by omega]; exact h10
  obtain ⟨e, f, g1, g2⟩ := go_torn (ht.drop u0) (used - u0) ⟨a, [], recs.take F, u0, u0⟩ ⟨a', [], recs, used, used⟩ rfl h9 h11 hd h7 h8
  have hgo : Jl.go Ts (J0 0) = Jl.go (Ts.drop u0) ⟨a, [], recs.take F, u0, u0⟩ := by
    have h13 := h6
    rw [← ht.same u0 h5] at h13
    have := Jl.go_thru (Ts.take u0) (Ts.drop u0) _ _ h13
    rw [List.take_append_drop] at this
    exact this
  rw [hgo, g1]
  simp only at g2
  have hF : (recs.take F).length = F := by rw [List.length_take]; have := h.forced; omega
  refine ⟨by show F ≤ (recs.take F ++ e).length; rw [List.length_append]; omega, ?_, ?_, ?_, ?_⟩
  · have h15 : recs.length = (recs.take F ++ e ++ f).length := congrArg List.length g2
    rw [List.length_append, List.length_append] at h15
    show (recs.take F ++ e).length ≤ recs.length
    rw [List.length_append]
    omega
  · have h16 : ∀ p : List (List Int), recs = p ++ e ++ f → p ++ e = recs.take (p ++ e).length := fun p hp => by rw [hp, List.take_left' rfl]
    exact h16 _ g2
  · rcases h.top with h13 | ⟨i, N, L, q1, q2, q3⟩
    · omega
    · obtain ⟨T, q4, q5⟩ := ht.get.2 i N L q1 q2
      have hT := List.mem_of_getElem? q4
      obtain ⟨s1, s2, s3⟩ := q5.sm (h.smN N (List.mem_of_getElem? q1)) (h.smL L (List.mem_of_getElem? q2))
      have q6 := grt_mem hT
      rw [s1.caps.1, s1.caps.2] at q6
      rcases q3 with q3 | q3
      · rcases s2 with s | s <;> omega
      · rcases s3 with s | s <;> omega
  · refine grt_up fun b hb' => ?_
    have q1 := ht.sm b hb'
    rw [q1.caps.1, q1.caps.2]
    exact ht.le h.leN h.leL b hb'
end Go.Proofs.Ytfecobkpdmjaeaa
