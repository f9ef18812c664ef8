/-
  Rows of the call's own, and what reading blocks comes to.
-/
import Derived.Test.YtfecobkpdmjaeaaQe
namespace Go.Proofs.Ytfecobkpdmjaeaa
open Go.RowKit
set_option linter.unusedVariables false
set_option linter.unusedSimpArgs false
set_option maxRecDepth 20000
theorem own_keepB {w w' : World} {base n : Nat} {e : TypeId} {s : Nat} {v : Value} {xs : List Value} (h : w.ownsRow base e s v n xs) (hk : ∀ (g : Nat) (cur : Array Value), base ≤ g → w.heap[g]? = some (.cells cur e (0, 0)) → w'.heap[g]? = w.heap[g]?) : w'.ownsRow base e s v n xs := by
  refine ⟨h.1, ?_⟩
  rcases h.2 with h0 | ⟨g, cap, cur, h1, h2, h3, r⟩
  · exact Or.inl h0
  · exact Or.inr ⟨g, cap, cur, h1, h2, (hk g cur h2 h3).trans h3, r⟩
theorem own_keepV {w w' : World} {base n : Nat} {e : TypeId} {s : Nat} {v : Value} {xs : List Value} (h : w.ownsRow base e s v n xs) (hk : ∀ g, v.ownBlock = some g → w'.heap[g]? = w.heap[g]?) : w'.ownsRow base e s v n xs := by
  refine ⟨h.1, ?_⟩
  rcases h.2 with h0 | ⟨g, cap, cur, h1, h2, h3, r⟩
  · exact Or.inl h0
  · exact Or.inr ⟨g, cap, cur, h1, h2, (hk g (by rw [h1]; rfl)).trans h3, r⟩
theorem own_base {w : World} {base b2 n : Nat} {e : TypeId} {s : Nat} {v : Value} {xs : List Value} (h : w.ownsRow base e s v n xs) (hb : b2 ≤ base) : w.ownsRow b2 e s v n xs := by
  refine ⟨h.1, ?_⟩
  rcases h.2 with h0 | ⟨g, cap, cur, h1, h2, r⟩
  · exact Or.inl h0
  · exact Or.inr ⟨g, cap, cur, h1, by omega, r⟩
/-- The value is a row of the call's own that holds these bytes. -/
def RowU (w : World) (B : Nat) (v : Value) (l : List Int) : Prop := w.ownsRow B 5 1 v l.length (nums l) ∧ Byt l
theorem RowU.nil (w : World) (B : Nat) : RowU w B (.slice none 0 0) [] := ⟨World.ownsRow_nil w B _ 1, byt_nil⟩
theorem RowU.keep {w w' : World} {B : Nat} {v : Value} {l : List Int} (h : RowU w B v l) (hk : ∀ (g : Nat) (cur : Array Value), B ≤ g → w.heap[g]? = some (.cells cur 5 (0, 0)) → w'.heap[g]? = w.heap[g]?) : RowU w' B v l := ⟨own_keepB h.1 hk, h.2⟩
theorem RowU.below {w w' : World} {B : Nat} {v : Value} {l : List Int} (h : RowU w B v l) (hb : Below w.heap.size w w') : RowU w' B v l := ⟨own_below h.1 hb, h.2⟩
theorem RowU.base {w : World} {B B2 : Nat} {v : Value} {l : List Int} (h : RowU w B v l) (hb : B2 ≤ B) : RowU w B2 v l := ⟨own_base h.1 hb, h.2⟩
theorem RowU.form {w : World} {B : Nat} {v : Value} {l : List Int} (h : RowU w B v l) : ∃ a c, v = .slice a l.length c ∧ l.length ≤ c ∧ Txt w (B ≤ ·) a l.length c l := by
  obtain ⟨a, c, e, ht⟩ := Txt.own h.1 h.2
  exact ⟨a, c, e, ht.2.1, ht⟩
/-- The value is a row of the call's own whose elements are such rows. -/
def Recs (w : World) (B : Nat) (v : Value) (L : List (List Int)) : Prop := ∃ vs, w.ownsRow B 37 1 v L.length vs ∧ ∀ (k : Nat) (l : List Int), L[k]? = some l → ∃ u, (vs : List Value)[k]? = some u ∧ RowU w B u l
theorem Recs.nil (w : World) (B : Nat) : Recs w B (.slice none 0 0) [] := ⟨[], World.ownsRow_nil w B _ 1, fun k l h => by simp at h⟩
theorem Recs.keep {w w' : World} {B : Nat} {v : Value} {L : List (List Int)} (h : Recs w B v L) (hk : ∀ (g : Nat) (cur : Array Value) (t : TypeId), B ≤ g → (t = 5 ∨ t = 37) → w.heap[g]? = some (.cells cur t (0, 0)) → w'.heap[g]? = w.heap[g]?) : Recs w' B v L := by
  obtain ⟨vs, h1, h2⟩ := h
  refine ⟨vs, own_keepB h1 (fun g cur hg hc => hk g cur _ hg (Or.inr rfl) hc), fun k l hl => ?_⟩
  obtain ⟨u, hu, hr⟩ := h2 k l hl
  exact ⟨u, hu, hr.keep (fun g cur hg hc => hk g cur _ hg (Or.inl rfl) hc)⟩
theorem Recs.keepV {w w' : World} {B : Nat} {v : Value} {L : List (List Int)} (h : Recs w B v L) (hk : ∀ g, v.ownBlock = some g → w'.heap[g]? = w.heap[g]?) (hk2 : ∀ (g : Nat) (cur : Array Value), B ≤ g → w.heap[g]? = some (.cells cur 5 (0, 0)) → w'.heap[g]? = w.heap[g]?) : Recs w' B v L := by
  obtain ⟨vs, h1, h2⟩ := h
  refine ⟨vs, own_keepV h1 hk, fun k l hl => ?_⟩
  obtain ⟨u, hu, hr⟩ := h2 k l hl
  exact ⟨u, hu, hr.keep hk2⟩
theorem Recs.below {w w' : World} {B : Nat} {v : Value} {L : List (List Int)} (h : Recs w B v L) (hb : Below w.heap.size w w') : Recs w' B v L :=
  h.keep fun g cur t _ _ hc => hb.block g (Array.getElem?_eq_some_iff.1 hc).1
theorem row_block {w : World} {base n : Nat} {e : TypeId} {s : Nat} {v : Value} {xs : List Value} (h : w.ownsRow base e s v n xs) {g : Nat} (hg : v.ownBlock = some g) : ∃ cur, base ≤ g ∧ w.heap[g]? = some (.cells cur e (0, 0)) := by
  rcases h.2 with ⟨rfl, _⟩ | ⟨g', cap, cur, rfl, h2, h3, _⟩
  · cases hg
  · injection hg with hg
    subst hg
    exact ⟨cur, h2, h3⟩
/-- One more row behind. -/
theorem Recs.more {w w' : World} {B : Nat} {v v' u : Value} {L : List (List Int)} {vs : List Value} {l : List Int} (h2 : ∀ (k : Nat) (l : List Int), L[k]? = some l → ∃ u, (vs : List Value)[k]? = some u ∧ RowU w B u l) (hown : w.ownsRow B 37 1 v L.length vs) (hu : RowU w B u l)
    (h' : w'.ownsRow B 37 1 v' (L.length + 1) (vs ++ [u])) (hg : w.grownBy w' v.ownBlock) : Recs w' B v' (L ++ [l]) := by
  have hlen : vs.length = L.length := by have := hown.1; omega
  have keepU : ∀ {x : Value} {m : List Int}, RowU w B x m → RowU w' B x m := fun hx => hx.keep fun g cur hgB hc => hg.block g (Array.getElem?_eq_some_iff.1 hc).1 (fun e => by
    obtain ⟨cur2, _, hc2⟩ := row_block hown e.symm
    rw [hc] at hc2
    injection hc2 with hc2
    injection hc2 with _ ht
    exact absurd ht (by decide))
  refine ⟨vs ++ [u], by rw [List.length_append]; exact h', fun k m hm => ?_⟩
  by_cases hk : k < L.length
  · rw [List.getElem?_append_left hk] at hm
    obtain ⟨x, hx, hr⟩ := h2 k m hm
    exact ⟨x, by rw [List.getElem?_append_left (by omega)]; exact hx, keepU hr⟩
  · rw [List.getElem?_append_right (by omega)] at hm
    have : k - L.length = 0 := by have := (List.getElem?_eq_some_iff.1 hm).1; simp at this; omega
    rw [this] at hm
    simp at hm
    subst hm
    exact ⟨u, by rw [List.getElem?_append_right (by omega), hlen, this]; rfl, keepU hu⟩
theorem sl_info : (Try.prog.info? 37).map (fun i => (i.zero, i.size, i.bytes)) = some (some (.slice none 0 0), 1, 24) := by kernel_rfl
/-- append of one value of one cell, that lies in a new block. -/
theorem wpList_append_one {w : World} {ops : Array Oper} {rest : List Oper} {o : Oper} {a : Act} {Q : Exit → Act → World → Prop} (hgd : o.guard = none) (s x : Operand) (T e : TypeId) (z : Value) (by8 : Nat)
    (ho : o.op = .call { callee := .builtin .append, args := #[s, x], argTypes := #[T, T] }) (hT : Try.prog.underlying T = some (.slice e)) (hinfo : (Try.prog.info? e).map (fun i => (i.zero, i.size, i.bytes)) = some (some z, 1, by8)) (hzs : z.cells.size = 1) (h8 : by8 ≤ 24)
    (base : Nat) (v : Value) (n : Nat) (xs : List Value) (hs : a.eval s = v) (hown : w.ownsRow base e 1 v n xs)
    (g : Nat) (T' : TypeId) (u : Value) (hx : a.eval x = .slice (some ⟨g, 0, none⟩) 1 1) (hg : Whole w g T' #[u]) (h1 : u.oneCell' = true)
    (hn : n ≤ 1000000) (hbase : base ≤ w.heap.size)
    (h : ∀ v' w', w'.ownsRow base e 1 v' (n + 1) (xs ++ [u]) → w.grownBy w' v.ownBlock → (v'.ownBlock = v.ownBlock ∨ v'.ownBlock = some w.heap.size) → wpList Try.prog ops Q rest (a.put o.dst v') w') : wpList Try.prog ops Q (o :: rest) a w := by
  obtain ⟨i0, hi0, hz0, hz1, hz2⟩ := info_parts hinfo
  refine wpList_plain hgd fun _ hK => ?_
  have hb : (n + 1) * by8 ≤ 140737488355328 := Nat.le_trans (Nat.mul_le_mul (show n + 1 ≤ 1000001 by omega) h8) (by decide)
  obtain ⟨v', w', hrun, h2, h3, _, h5⟩ := run_append_own_at (P := Try.prog) w base T o.type e i0 z 1 by8 hT hi0 hz0 hz1 hz2 hzs (by omega) v n xs hown ⟨g, 0, none⟩ 1 1 [u] (by simp) (fun j t hu => by rw [Addr.add_lit, Nat.zero_add, hg.cell, List.getElem?_toArray]; exact hu) (by intro t ht; simp at ht; rw [ht]; exact h1) (by unfold maxLen; omega) hb hbase
  unfold Oper.wp execOp
  simp only [ho, resolve, invoke, builtin, Sem.run_bind, Sem.run_pure, Result.andThen_ok, List.map_toArray, List.map_cons, List.map_nil, hs, hx, hrun]
  exact hK _ _ (h v' w' h2 h3 h5)
theorem below_own {B : Nat} {a b c : World} {v : Value} (h : Below B a b) (hB : B ≤ b.heap.size) (hg : b.grownBy c v.ownBlock) (hv : ∀ g, v.ownBlock = some g → B ≤ g) : Below B a c :=
  h.trans ⟨hg.os, hg.tape, hg.output, hg.size, fun k hk => hg.block k (by omega) (fun e => by have := hv k e.symm; omega)⟩

/-! What reading comes to -/
theorem lf_hd (b : List Int) : Jl.lf b 0 = cap (hd b) := by unfold Jl.lf cap hd; by_cases h : Jl.num ((b.drop 0).take 8) ≤ 1099511627776; rw [if_neg (by omega), if_pos h]; rw [if_pos (by omega), if_neg h]
theorem lf_tl (b : List Int) : Jl.lf b 56 = cap (tl b) := by unfold Jl.lf cap tl; by_cases h : Jl.num ((b.drop 56).take 8) ≤ 1099511627776; rw [if_neg (by omega), if_pos h]; rw [if_pos (by omega), if_neg h]
theorem good_is (s : Jl.S) (b : List Int) (same : Bool) (hs : same = true ↔ s.part ≠ []) : goodB b s.least same = decide (Jl.good s b) := by
  rw [Bool.eq_iff_iff, decide_eq_true_eq]
  unfold goodB Jl.good formedB
  rw [lf_hd, lf_tl]
  rw [Bool.and_eq_true, decide_eq_true_eq]
  constructor
  · rintro ⟨⟨h1, h2, h3, h4, h5⟩, h6⟩
    have e1 : cap (hd b) = hd b := by unfold cap; rw [if_pos h3]
    have e2 : cap (tl b) = hd b := by rw [← h1, e1]
    rw [e1, e2]
    split at h6
    · cases h6
    · rename_i h7
      refine ⟨h2, rfl, h4, fun h => h5 (hs.2 h), ?_, by omega, by omega⟩
      split at h6
      · rename_i h8
        exact Or.inr ⟨h8, of_decide_eq_true h6⟩
      · exact Or.inl (of_decide_eq_true h6)
  · rintro ⟨h1, h2, h3, h4, h5, h6, h7⟩
    have e1 : hd b ≤ 1099511627776 := by unfold cap at h1; split at h1 <;> omega
    have e2 : cap (hd b) = hd b := by unfold cap; rw [if_pos e1]
    have e3 : tl b ≤ 1099511627776 := by rw [h2] at h1; unfold cap at h1; split at h1 <;> omega
    have e4 : cap (tl b) = tl b := by unfold cap; rw [if_pos e3]
    rw [e2] at h1 h2 h3 h4
    rw [e4] at h2
    refine ⟨⟨h2, h1, e1, h3, fun h => h4 (hs.1 h)⟩, ?_⟩
    rw [if_neg (by omega)]
    split
    · exact decide_eq_true (by omega)
    · rename_i h8
      exact decide_eq_true (by omega)
/-- How reading begins. -/
def J0 (a : Nat) : Jl.S := ⟨a, [], [], 0, 0⟩
theorem go_end {bs : List (List Int)} {s0 s : Jl.S} {k : Nat} (h : Jl.thru (bs.take k) s0 = some s) (he : bs.length ≤ k ∨ ∃ b, bs[k]? = some b ∧ ¬ Jl.good s b) : Jl.go bs s0 = s := by
  have e : bs = bs.take k ++ bs.drop k := (List.take_append_drop k bs).symm
  rw [e, Jl.go_thru _ _ _ _ h]
  rcases he with he | ⟨b, hb, hg⟩
  · rw [List.drop_of_length_le he]; rfl
  · have hk := (List.getElem?_eq_some_iff.1 hb).1
    have hb' : bs[k] = b := by have := (List.getElem?_eq_some_iff.1 hb).2; exact this
    rw [List.drop_eq_getElem_cons hk, hb']
    show (if Jl.good s b then _ else s) = s
    rw [if_neg hg]
theorem thru_step {bs : List (List Int)} {s0 s : Jl.S} {k : Nat} (h : Jl.thru (bs.take k) s0 = some s) (hk : k < bs.length) (hg : Jl.good s (bs.getD k [])) : Jl.thru (bs.take (k + 1)) s0 = some (Jl.step s (bs.getD k [])) := by
  rw [take_snocB bs k hk, Jl.thru_app _ _ _ _ h]
  show (if Jl.good s _ then Jl.thru [] _ else none) = _
  rw [if_pos hg]
  rfl
end Go.Proofs.Ytfecobkpdmjaeaa
