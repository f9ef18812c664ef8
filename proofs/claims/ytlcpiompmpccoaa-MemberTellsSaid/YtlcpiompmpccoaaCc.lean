/-
  The walks of the document's Same and All of members.
-/
import Derived.Test.YtlcpiompmpccoaaCb
import Derived.Great.CaseRows
namespace Mb
theorem ext_of {l l' : List M} (hn : l.length = l'.length) (h : ∀ i, i < l.length → l.getD i nought = l'.getD i nought) : l = l' := by
  refine List.ext_getElem hn fun i h1 h2 => ?_
  have := h i h1
  simpa [h1, h2] using this
theorem all_snoc {a b : List M} {i : Nat} (h : i < a.length ∨ i < b.length) : (all a b).take (i + 1) = (all a b).take i ++ [if b.length ≤ i then a.getD i nought else if a.length ≤ i then b.getD i nought else join (a.getD i nought) (b.getD i nought)] := by
  rw [List.take_add_one]
  congr 1
  have hg := all_get a b i
  by_cases h1 : i < a.length
  · by_cases h2 : i < b.length
    · rw [List.getElem?_eq_getElem h1, List.getElem?_eq_getElem h2] at hg
      rw [hg, if_neg (by omega), if_neg (by omega)]
      simp [h1, h2]
    · rw [List.getElem?_eq_getElem h1, List.getElem?_eq_none (l := b) (by omega)] at hg
      rw [hg, if_pos (by omega)]
      simp [h1]
  · have h2 : i < b.length := by omega
    rw [List.getElem?_eq_none (l := a) (by omega), List.getElem?_eq_getElem h2] at hg
    rw [hg, if_neg (by omega), if_pos (by omega)]
    simp [h2]
end Mb
namespace Go.Proofs.Ytlcpiompmpccoaa
open Go.RowKit Go.Great
set_option linter.unusedVariables false
set_option linter.unusedSimpArgs false
set_option maxRecDepth 20000
open Mb
set_option maxHeartbeats 4000000 in
theorem rsame_any {w : World} {S S' : Nat → Prop} {a a' : Option Addr} {n n' c c' : Nat} {l l' : List M} (h : Ms w S a n l) (h' : Ms w S' a' n' l') (hn : n ≤ 1000000) :
    Calls Try.prog 21 #[.slice a n c, .slice a' n' c'] w fun e w' => e = .returned (.bool (decide (l = l'))) ∧ Below w.heap.size w w' := by
  have HLN := Lib.hid (And.intro h.1 h'.1)
  have H0 : Hid (Ms w S a n l ∧ Ms w S' a' n' l' ∧ ∃ q, w = w.drewN q) := Lib.hid ⟨h, h', 0, rfl⟩
  clear h h'
  obtain ⟨t, ht⟩ : ∃ t, decide (l = l') = t := ⟨_, rfl⟩
  rw [ht]
  have HT := Lib.hid ht
  clear ht
  go_enter Try.func21, Try.ntmps21
  by_cases z : n = n'
  case neg =>
    have d0 : ((n : Int) != (n' : Int)) = true := by simp; omega
    have HN : Hid (t = false) := Lib.hid (by rw [← HT.out]; exact decide_eq_false fun e => z (by rw [← HLN.out.1, ← HLN.out.2, e]))
    clear z
    go_wp2
    go_ret
    exact ⟨ret_bool HN.out.symm, Below.refl _ _⟩
  subst z
  have d0 : ((n : Int) != (n : Int)) = false := by simp
  go_wp2
  go_loopw [5] (fun i wr => ∃ j : Nat, j ≤ n ∧ i = .int .i64 (j : Int) ∧ Hid (∀ i, i < j → l.getD i nought = l'.getD i nought) ∧ Hid (Ms wr S a n l ∧ Ms wr S' a' n l' ∧ ∃ q, wr = w.drewN q)) (fun i _ => n - (intOf i).toNat)
  case atStart => exact ⟨0, Nat.zero_le _, rfl, Lib.hid (fun i hi => absurd hi (Nat.not_lt_zero i)), H0⟩
  case round =>
    clear H0
    obtain ⟨j, hj, rfl, HN, HB⟩ := hrel
    by_cases hlt : j < n
    · obtain ⟨x, hx⟩ : ∃ x, l.getD j nought = x := ⟨_, rfl⟩
      obtain ⟨y, hy⟩ : ∃ y, l'.getD j nought = y := ⟨_, rfl⟩
      obtain ⟨ga, oa, ha, _, _, ca0, ca1⟩ := HB.out.1.at_ hlt
      obtain ⟨gb, ob, hb, _, _, cb0, cb1⟩ := HB.out.2.1.at_ hlt
      rw [hx] at ca0 ca1
      rw [hy] at cb0 cb1
      have HX := Lib.hid (And.intro hx hy)
      subst ha hb
      have hne := neM x y
      obtain ⟨x0, x1⟩ := x
      obtain ⟨y0, y1⟩ := y
      simp only [mc] at hne ca0 ca1 cb0 cb1
      have q1 : (j : Int) < (n : Int) := by omega
      clear hx hy
      by_cases he : ((x0, x1) : M) = (y0, y1)
      · rw [decide_eq_true he] at hne
        have HNX : Hid (∀ i, i < j + 1 → l.getD i nought = l'.getD i nought) := Lib.hid (fun i hi => by
          by_cases hij : i = j
          · rw [hij, HX.out.1, HX.out.2]; exact he
          · exact HN.out i (by omega))
        clear he
        go_wp2
        go_quiet (fail)
        go_wp2
        go_roundw
        case rel => exact ⟨j + 1, by omega, by go_num, HNX, Lib.hid ⟨HB.out.1.keep (Nat.le_refl _) (fun _ _ _ => rfl), HB.out.2.1.keep (Nat.le_refl _) (fun _ _ _ => rfl), by obtain ⟨q, hq⟩ := HB.out.2.2; exact ⟨q + nq, by rw [hq]; simp [World.drewN, Nat.add_assoc]⟩⟩⟩
        case measure => simp [intOf]; omega
      · rw [decide_eq_false he] at hne
        have HF : Hid (t = false) := Lib.hid (by rw [← HT.out]; exact decide_eq_false fun e => he (by rw [← HX.out.1, ← HX.out.2, e]))
        clear he
        go_wp2
        go_quiet (fail)
        go_wp2
        go_ret
        obtain ⟨q, hq⟩ := HB.out.2.2
        refine ⟨ret_bool HF.out.symm, ?_⟩
        rw [hq]
        exact ⟨rfl, rfl, rfl, Nat.le_refl _, fun _ _ => rfl⟩
    · have q1 : ¬ ((j : Int) < (n : Int)) := by omega
      have HF : Hid (t = true) := Lib.hid (by rw [← HT.out]; exact decide_eq_true (ext_of (by rw [HLN.out.1, HLN.out.2]) fun i hi => HN.out i (by rw [HLN.out.1] at hi; omega)))
      go_wp2
      go_ret
      obtain ⟨q, hq⟩ := HB.out.2.2
      exact ⟨ret_bool HF.out.symm, by rw [hq]; exact ⟨rfl, rfl, rfl, Nat.le_refl _, fun _ _ => rfl⟩⟩
/-- A slice that is built of one member. -/
theorem wp_build1 {o : Oper} {a : Act} {w : World} {K : Act → World → Prop} {Q : Exit → Act → World → Prop} (ix : Nat) (ho : o.op = .buildSlice 30 1 #[(0, .tmp ix)]) (m : M)
    (hev : a.eval (.tmp ix) = .agg (mc m)) (h : K (a.put o.dst (.slice (some ⟨w.heap.size, 0, none⟩) 1 1)) (w.alloc (.cells (mc m) 24))) : o.wp Try.prog a w K Q := by
  obtain ⟨i, hi, hz, hsize, hby⟩ := info_parts mem_info
  refine wp_buildSlice 30 24 1 #[(0, .tmp ix)] ho (mc m) i _ members_und hi hz (by rw [hsize]; decide) (by rw [hsize]; decide) ?_ h
  rw [hsize]
  have e1 : ((#[(0, Operand.tmp ix)] : Array (Nat × Operand)).map fun (i, x) => (i, a.eval x)).toList = (([Value.agg (mc m)] : List Value).zipIdx 0).map fun x => (x.2, x.1) := by
    simp only [List.map_toArray, List.map_cons, List.map_nil, hev]
    rfl
  rw [e1]
  have h := Go.Great.fill_whole (s := 2) (by omega) [Value.agg (mc m)] ((Array.range (1 * 2)).map ((Value.agg #[Value.int .i64 0, Value.int .i64 0]).cells[· % (Value.agg #[Value.int .i64 0, Value.int .i64 0]).cells.size]!)) (by intro v hv; simp at hv; subst hv; simp [Value.cells, mc]) (by simp)
  refine h.trans ?_
  simp [Value.cells, mc]
theorem wpList_build1 {ops : Array Oper} {rest : List Oper} {o : Oper} {a : Act} {w : World} {Q : Exit → Act → World → Prop} (hg : Region.wanted o (yielded ops a.tmps) = true) (ix : Nat) (ho : o.op = .buildSlice 30 1 #[(0, .tmp ix)]) (m : M)
    (hev : a.eval (.tmp ix) = .agg (mc m)) (h : wpList Try.prog ops Q rest (a.put o.dst (.slice (some ⟨w.heap.size, 0, none⟩) 1 1)) (w.alloc (.cells (mc m) 24))) : wpList Try.prog ops Q (o :: rest) a w :=
  wpList_step fun _ hK => by rw [if_pos hg]; exact wp_build1 ix ho m hev (hK _ _ h)
theorem ms_one {w : World} {S : Nat → Prop} {g : Nat} {m : M} (h : Bx w g m) (hS : S g) (hm : Min m) : Ms w S (some ⟨g, 0, none⟩) 1 [m] := by
  refine ⟨rfl, fun x hx => by rw [List.mem_singleton.1 hx]; exact hm, Or.inr ⟨g, 0, rfl, hS, h.lt, fun k hk => ?_⟩⟩
  have : k = 0 := by omega
  subst this
  exact ⟨h.c0, h.c1⟩
/-- A row of members of the call's own. -/
structure Mow (w : World) (B : Nat) (a : Option Addr) (n c : Nat) (l : List M) : Prop where
  own : w.ownsRow B 24 2 (.slice a n c) n (flatM l)
  mem : ∀ m ∈ l, Min m
  len : l.length = n
section
variable {w w' : World} {B B' : Nat} {a : Option Addr} {n c : Nat} {l : List M}
theorem Mow.get (h : Mow w B a n c l) : n ≤ c ∧ Ms w (B ≤ ·) a n l := by
  obtain ⟨a', c', e, h1, h2⟩ := own_ms h.own h.mem h.len
  injection e with e1 e2 e3
  subst e1 e3
  exact ⟨h1, h2⟩
theorem own_keepM {xs : List Value} {v : Value} {e s : Nat} (h : w.ownsRow B e s v n xs) (hk : ∀ b, v.ownBlock = some b → w'.heap[b]? = w.heap[b]?) : w'.ownsRow B e s v n xs := by
  refine ⟨h.1, ?_⟩
  rcases h.2 with h2 | ⟨g, cap, cur, rfl, hb, hh, rest⟩
  · exact Or.inl h2
  · exact Or.inr ⟨g, cap, cur, rfl, hb, (hk g rfl).trans hh, rest⟩
theorem Mow.below (h : Mow w B a n c l) (hb : Below w.heap.size w w') : Mow w' B a n c l := ⟨own_keepM h.own (fun b hq => hb.block b (h.own.lt b hq).2), h.mem, h.len⟩
theorem Mow.mono (h : Mow w B a n c l) (hB : B' ≤ B) : Mow w B' a n c l := ⟨⟨h.own.1, h.own.2.imp id (fun ⟨g, cap, cur, h1, h2, h3⟩ => ⟨g, cap, cur, h1, Nat.le_trans hB h2, h3⟩)⟩, h.mem, h.len⟩
theorem Mow.nil (w : World) (B : Nat) : Mow w B none 0 0 [] := ⟨World.ownsRow_nil _ _ _ _, (fun m hm => by cases hm), rfl⟩
theorem Mow.add {v' : Value} {m : M} (h : Mow w B a n c l) (hm : Min m) (hown : w'.ownsRow B 24 2 v' (n + 1) (flatM l ++ flatM [m])) : ∃ a' c', v' = .slice a' (n + 1) c' ∧ Mow w' B a' (n + 1) c' (l ++ [m]) := by
  rw [← flatM_append] at hown
  have hk : ∀ x ∈ l ++ [m], Min x := fun x hx => by
    rcases List.mem_append.1 hx with hx | hx
    · exact h.mem x hx
    · rw [List.mem_singleton.1 hx]; exact hm
  obtain ⟨a', c', rfl, h1, h2⟩ := own_ms hown hk (by simp [h.len])
  exact ⟨a', c', rfl, hown, hk, by simp [h.len]⟩
end
theorem min_join {a b : M} (ha : Min a) (hb : Min b) : Min (join a b) := by unfold join; split <;> assumption
/-- A row of one's own is answered. -/
def RowQ (w : World) (l : List M) (e : Ending) (w' : World) : Prop := ∃ a n c, e = .returned (.slice a n c) ∧ Mow w' w.heap.size a n c l ∧ Below w.heap.size w w'
end Go.Proofs.Ytlcpiompmpccoaa
