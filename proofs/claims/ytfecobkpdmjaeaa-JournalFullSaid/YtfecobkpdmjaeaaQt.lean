/-
  Mathematics of a journal behind crashes, for lives of one byte.
-/
import Derived.Test.YtfecobkpdmjaeaaQp
namespace Go.Proofs.Ytfecobkpdmjaeaa
set_option linter.unusedVariables false
set_option maxRecDepth 20000
def hb (b : List Int) : Nat := (b.getD 7 0).toNat
def tb (b : List Int) : Nat := (b.getD 63 0).toNat
/-- Both lives are of one byte. -/
structure Sm (b : List Int) : Prop where
  blk : Blk b
  h : b.take 7 = List.replicate 7 0
  t : (b.drop 56).take 7 = List.replicate 7 0
theorem num_seven (x : Int) : Jl.num (List.replicate 7 0 ++ [x]) = x.toNat := by simp [Jl.num, List.replicate]
theorem Sm.hd {b : List Int} (h : Sm b) : hd b = hb b := by
  have e : (b.drop 0).take 8 = List.replicate 7 0 ++ [b.getD 7 0] := by
    rw [List.drop_zero, take_snocI b 7 (by have := h.blk.1; omega), h.h]
  unfold Go.Proofs.Ytfecobkpdmjaeaa.hd hb
  rw [e, num_seven]
theorem Sm.tl {b : List Int} (h : Sm b) : tl b = tb b := by
  have hl := h.blk.1
  have e : (b.drop 56).take 8 = List.replicate 7 0 ++ [b.getD 63 0] := by
    rw [take_snocI (b.drop 56) 7 (by rw [List.length_drop]; omega), h.t]
    congr 2
    simp [List.getD]
  unfold Go.Proofs.Ytfecobkpdmjaeaa.tl tb
  rw [e, num_seven]
theorem Sm.hb_lt {b : List Int} (h : Sm b) : hb b < 256 := by have := byt_getD h.blk.2 7; unfold hb; omega
theorem Sm.tb_lt {b : List Int} (h : Sm b) : tb b < 256 := by have := byt_getD h.blk.2 63; unfold tb; omega
theorem Sm.lf0 {b : List Int} (h : Sm b) : Jl.lf b 0 = hb b := by rw [lf_hd, h.hd]; unfold cap; rw [if_pos (by have := h.hb_lt; omega)]
theorem Sm.lf56 {b : List Int} (h : Sm b) : Jl.lf b 56 = tb b := by rw [lf_tl, h.tl]; unfold cap; rw [if_pos (by have := h.tb_lt; omega)]
theorem Sm.caps {b : List Int} (h : Sm b) : cap (Go.Proofs.Ytfecobkpdmjaeaa.hd b) = hb b ∧ cap (Go.Proofs.Ytfecobkpdmjaeaa.tl b) = tb b := by
  rw [← lf_hd, ← lf_tl, h.lf0, h.lf56]; exact ⟨rfl, rfl⟩
theorem z64_sm : Sm z64 := ⟨z64_blk, by decide +kernel, by decide +kernel⟩
theorem block_sm {r : List Int} {i l : Nat} (hr : Byt r) (hl : l < 256) : Sm (Jl.block r i l) ∧ hb (Jl.block r i l) = l ∧ tb (Jl.block r i l) = l := by
  have e : Jl.big l = List.replicate 7 0 ++ [((l : Nat) : Int)] := by
    unfold Jl.big
    simp only [List.replicate, List.cons_append, List.nil_append]
    congr 1; · omega
    congr 1; · omega
    congr 1; · omega
    congr 1; · omega
    congr 1; · omega
    congr 1; · omega
    congr 1; · omega
    congr 1; omega
  have hh := Jl.block_head r i l
  have ht := Jl.block_tail r i l
  have hlen := Jl.block_len r i l
  have s : Sm (Jl.block r i l) := by
    refine ⟨blk_byt i l hr, ?_, ?_⟩
    · have := congrArg (List.take 7) hh
      rw [List.take_take, show min 7 8 = 7 by omega, e] at this
      rw [this]; rfl
    · rw [ht, e]; rfl
  refine ⟨s, ?_, ?_⟩
  · rw [← s.lf0]; exact (Jl.block_lf (by omega)).1
  · rw [← s.lf56]; exact (Jl.block_lf (by omega)).2
/-- T is N torn over L. -/
def Torn (T N L : List Int) : Prop := ∃ m, m ≤ 64 ∧ T = N.take m ++ L.drop m
theorem torn_get {T N L : List Int} {m : Nat} (hN : N.length = 64) (hL : L.length = 64) (hm : m ≤ 64) (e : T = N.take m ++ L.drop m) (k : Nat) : T.getD k 0 = if k < m then N.getD k 0 else L.getD k 0 := by
  rw [e, List.getD_eq_getElem?_getD, List.getD_eq_getElem?_getD, List.getD_eq_getElem?_getD]
  by_cases h : k < m
  · rw [if_pos h, List.getElem?_append_left (by rw [List.length_take]; omega), List.getElem?_take, if_pos h]
  · rw [if_neg h, List.getElem?_append_right (by rw [List.length_take]; omega), List.length_take, List.getElem?_drop, show m + (k - min m N.length) = k by omega]
theorem torn_low {T N L : List Int} {m : Nat} (hN : Sm N) (hL : Sm L) (hm : m ≤ 7) (e : T = N.take m ++ L.drop m) : T = L := by
  have h1 : N.take m = L.take m := by
    have e1 : N.take m = (N.take 7).take m := by rw [List.take_take, Nat.min_eq_left hm]
    have e2 : L.take m = (L.take 7).take m := by rw [List.take_take, Nat.min_eq_left hm]
    rw [e1, e2, hN.h, hL.h]
  rw [e, h1, List.take_append_drop]
theorem Torn.sm {T N L : List Int} (h : Torn T N L) (hN : Sm N) (hL : Sm L) : Sm T ∧ (hb T = hb N ∨ hb T = hb L) ∧ (tb T = tb N ∨ tb T = tb L) := by
  obtain ⟨m, hm, e⟩ := h
  have lN := hN.blk.1
  have lL := hL.blk.1
  have hlen : T.length = 64 := by rw [e, List.length_append, List.length_take, List.length_drop]; omega
  have hg := torn_get lN lL hm e
  refine ⟨⟨⟨hlen, by rw [e]; exact byt_append (byt_take hN.blk.2 _) (byt_drop hL.blk.2 _)⟩, ?_, ?_⟩, ?_, ?_⟩
  · apply List.ext_getElem (by rw [List.length_take, List.length_replicate]; omega)
    intro k h1 h2
    have hk : k < 7 := by rw [List.length_take] at h1; omega
    have a1 : N.getD k 0 = 0 := by
      have := congrArg (fun l => l.getD k 0) hN.h
      simp only [List.getD_eq_getElem?_getD, List.getElem?_take, if_pos hk, List.getElem?_replicate] at this
      simpa [List.getD_eq_getElem?_getD] using this
    have a2 : L.getD k 0 = 0 := by
      have := congrArg (fun l => l.getD k 0) hL.h
      simp only [List.getD_eq_getElem?_getD, List.getElem?_take, if_pos hk, List.getElem?_replicate] at this
      simpa [List.getD_eq_getElem?_getD] using this
    have := hg k
    rw [a1, a2, ite_self] at this
    rw [List.getElem_take, List.getElem_replicate]
    simpa [List.getD, show k < T.length by omega] using this
  · apply List.ext_getElem (by rw [List.length_take, List.length_drop, List.length_replicate]; omega)
    intro k h1 h2
    have hk : k < 7 := by rw [List.length_take] at h1; omega
    have a1 : N.getD (56 + k) 0 = 0 := by
      have := congrArg (fun l => l.getD k 0) hN.t
      simp only [List.getD_eq_getElem?_getD, List.getElem?_take, if_pos hk, List.getElem?_replicate, List.getElem?_drop] at this
      simpa [List.getD_eq_getElem?_getD] using this
    have a2 : L.getD (56 + k) 0 = 0 := by
      have := congrArg (fun l => l.getD k 0) hL.t
      simp only [List.getD_eq_getElem?_getD, List.getElem?_take, if_pos hk, List.getElem?_replicate, List.getElem?_drop] at this
      simpa [List.getD_eq_getElem?_getD] using this
    have := hg (56 + k)
    rw [a1, a2, ite_self] at this
    rw [List.getElem_take, List.getElem_drop, List.getElem_replicate]
    simpa [List.getD, show 56 + k < T.length by omega] using this
  · unfold hb
    rw [hg 7]
    split
    · exact Or.inl rfl
    · exact Or.inr rfl
  · unfold tb
    rw [hg 63]
    split
    · exact Or.inl rfl
    · exact Or.inr rfl
theorem Torn.same {T N : List Int} (h : Torn T N N) : T = N := by
  obtain ⟨m, _, e⟩ := h
  rw [e, List.take_append_drop]
/-- A good torn block is the old one, or the new one where that bears the life. -/
theorem Torn.good {T N L : List Int} {life : Nat} {s : Jl.S} (h : Torn T N L) (hN : Sm N) (hL : Sm L) (hn : N = L ∨ (hb N = life ∧ tb N = life)) (ho : tb L < life) (hg : Jl.good s T) : T = L ∨ (T = N ∧ hb N = life) := by
  rcases hn with rfl | ⟨h1, h2⟩
  · exact Or.inl h.same
  · have hs := h.sm hN hL
    obtain ⟨m, hm, e⟩ := h
    have hgt := torn_get hN.blk.1 hL.blk.1 hm e
    have e2 : hb T = tb T := by rw [← hs.1.lf0, ← hs.1.lf56]; exact hg.2.1
    by_cases h7 : m ≤ 7
    · exact Or.inl (torn_low hN hL h7 e)
    · have a1 : hb T = life := by rw [← h1]; unfold hb; rw [hgt 7, if_pos (by omega)]
      by_cases h64 : m ≤ 63
      · have a2 : tb T = tb L := by unfold tb; rw [hgt 63, if_neg (by omega)]
        omega
      · refine Or.inr ⟨?_, h1⟩
        have : m = 64 := by omega
        subst this
        rw [e, List.take_of_length_le (by have := hN.blk.1; omega), List.drop_of_length_le (by have := hL.blk.1; omega), List.append_nil]
end Go.Proofs.Ytfecobkpdmjaeaa
