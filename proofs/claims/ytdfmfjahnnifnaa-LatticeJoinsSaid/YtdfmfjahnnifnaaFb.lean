/-
  More plain mathematics of lists of facts: what the best epoch, the next number, and who are, and the two hundred facts.
-/
import Derived.Test.YtdfmfjahnnifnaaFa
namespace La
open Ft
/-- Facts of little loads. -/
def few (f : Fact) : Bool := decide (f.man.ds.length ≤ 100)
def fewOf (l : List Fact) (most : Nat) : List Fact := (l.take most).filter few
def grown (nodes : Int) (l : List Fact) (most : Nat) : List Fact := merge nodes [] (fewOf l most)
def plainOf (l : List Fact) (most : Nat) : List Fact := (l.take most).filter fun f => decide (f.kind ≠ 1)
theorem good_nil (nodes : Int) : Good nodes [] := ⟨List.Pairwise.nil, fun f hf => by cases hf⟩
theorem grown_good (nodes : Int) (l : List Fact) (most : Nat) : Good nodes (grown nodes l most) := merge_good _ (good_nil nodes)
theorem fewOf_len (l : List Fact) (most : Nat) : (fewOf l most).length ≤ most := by
  unfold fewOf
  have h1 := List.length_filter_le few (l.take most)
  have h2 := List.length_take_le most l
  omega
theorem grown_len (nodes : Int) (l : List Fact) (most : Nat) : (grown nodes l most).length ≤ most := by
  have h1 := merge_len (nodes := nodes) (fewOf l most) (a := [])
  have h2 := fewOf_len l most
  unfold grown
  simp only [List.length_nil] at h1
  omega
theorem fewOf_few {l : List Fact} {most : Nat} {f : Fact} (h : f ∈ fewOf l most) : f.man.ds.length ≤ 100 := by
  have := (List.mem_filter.1 h).2
  unfold few at this
  exact of_decide_eq_true this
theorem grown_few {nodes : Int} {l : List Fact} {most : Nat} {f : Fact} (h : f ∈ grown nodes l most) : f.man.ds.length ≤ 100 := by
  rcases merge_mem _ h with h | h
  · cases h
  · exact fewOf_few h
theorem grown_plain (nodes : Int) (l : List Fact) (m1 m2 : Nat) : Plain nodes (grown nodes (plainOf l m1) m2) := by
  refine ⟨grown_good _ _ _, fun f hf => ?_⟩
  rcases merge_mem _ hf with h | h
  · cases h
  · have h1 := List.mem_of_mem_take (List.mem_filter.1 h).1
    have h2 := (List.mem_filter.1 h1).2
    exact of_decide_eq_true h2
theorem ins_sub (l : List Fact) (f : Fact) : l.Sublist (ins l f) := by
  induction l with
  | nil => simp
  | cons a l ih =>
    unfold ins
    split
    · exact ih.cons_cons a
    · exact List.sublist_cons_self f (a :: l)
theorem add_sub (nodes : Int) (l : List Fact) (f : Fact) : l.Sublist (add nodes l f).1 := by
  unfold add
  split
  · exact List.Sublist.refl _
  · split
    · exact List.Sublist.refl _
    · split
      · exact List.Sublist.refl _
      · exact ins_sub l f
theorem merge_sub (nodes : Int) (b : List Fact) : ∀ a : List Fact, a.Sublist (merge nodes a b) := by
  induction b with
  | nil => exact fun a => List.Sublist.refl _
  | cons f b ih => intro a; rw [merge_cons]; exact (add_sub nodes a f).trans (ih _)
theorem who_sub {a b : List Fact} (h : a.Sublist b) (k e : Int) : (who a k e).length ≤ (who b k e).length := by
  unfold who
  rw [List.length_map, List.length_map]
  exact (h.filter _).length_le
theorem aborted_more {nodes : Int} {a b : List Fact} {e m : Int} (h : aborted a e m) : aborted (merge nodes a b) e m := by
  have := who_sub (merge_sub nodes b a) 3 e
  unfold aborted at *
  omega
theorem aborted_less {l : List Fact} {e m m' : Int} (h : aborted l e m) (hm : m' ≤ m) : aborted l e m' := by unfold aborted at *; omega
/-- What the best one is. -/
theorem best_fold (L : List Fact) (m : Int) (l : List Fact) : ∀ out : Int, out ≤ l.foldl (bestStep L m) out ∧
    (l.foldl (bestStep L m) out = out ∨ ∃ f ∈ l, f.kind = 1 ∧ f.epoch = l.foldl (bestStep L m) out ∧ ¬ aborted L f.epoch m) ∧
    ∀ f ∈ l, f.kind = 1 → ¬ aborted L f.epoch m → f.epoch ≤ l.foldl (bestStep L m) out := by
  induction l with
  | nil => exact fun out => ⟨Int.le_refl _, Or.inl rfl, fun f hf => by cases hf⟩
  | cons g l ih =>
    intro out
    rw [List.foldl_cons]
    obtain ⟨h1, h2, h3⟩ := ih (bestStep L m out g)
    have h4 : out ≤ bestStep L m out g := by unfold bestStep; split <;> omega
    refine ⟨Int.le_trans h4 h1, ?_, fun f hf hk ha => ?_⟩
    · rcases h2 with h2 | ⟨f, hf, h⟩
      · by_cases hc : g.kind = 1 ∧ ¬ aborted L g.epoch m ∧ out < g.epoch
        · right
          refine ⟨g, List.mem_cons_self, hc.1, ?_, hc.2.1⟩
          rw [h2]; unfold bestStep; rw [if_pos hc]
        · left
          rw [h2]; unfold bestStep; rw [if_neg hc]
      · exact Or.inr ⟨f, List.mem_cons_of_mem _ hf, h⟩
    · rcases List.mem_cons.1 hf with rfl | hf
      · refine Int.le_trans ?_ h1
        unfold bestStep
        split
        · exact Int.le_refl _
        · rename_i hc
          apply Decidable.byContradiction
          intro hh
          exact hc ⟨hk, ha, by omega⟩
      · exact h3 f hf hk ha
theorem best_is (l : List Fact) (m : Int) : (best l m = 0 ∨ ∃ f ∈ l, f.kind = 1 ∧ f.epoch = best l m ∧ ¬ aborted l (best l m) m) ∧ ∀ f ∈ l, f.kind = 1 → ¬ aborted l f.epoch m → f.epoch ≤ best l m := by
  obtain ⟨_, h2, h3⟩ := best_fold l m l 0
  refine ⟨?_, h3⟩
  rcases h2 with h | ⟨f, hf, hk, he, ha⟩
  · exact Or.inl h
  · exact Or.inr ⟨f, hf, hk, he, by rw [he] at ha; exact ha⟩
theorem mani_some {l : List Fact} {f : Fact} (h : f ∈ l) (hk : f.kind = 1) : ∃ m, mani l f.epoch = some m := by
  unfold mani
  cases hf : l.find? (whose 1 f.epoch) with
  | some g => exact ⟨_, rfl⟩
  | none =>
    have := List.find?_eq_none.1 hf f h
    unfold whose at this
    simp [hk] at this
/-- What the next number is. -/
theorem next_fold (l : List Fact) : ∀ out : Int, out ≤ l.foldl nextStep out ∧ (l.foldl nextStep out = out ∨ ∃ f ∈ l, l.foldl nextStep out = ofK f.epoch + 1) ∧ ∀ f ∈ l, ofK f.epoch + 1 ≤ l.foldl nextStep out := by
  induction l with
  | nil => exact fun out => ⟨Int.le_refl _, Or.inl rfl, fun f hf => by cases hf⟩
  | cons g l ih =>
    intro out
    rw [List.foldl_cons]
    obtain ⟨h1, h2, h3⟩ := ih (nextStep out g)
    have h4 : out ≤ nextStep out g := by unfold nextStep; split <;> omega
    have h5 : ofK g.epoch + 1 ≤ nextStep out g := by unfold nextStep; split <;> omega
    refine ⟨Int.le_trans h4 h1, ?_, fun f hf => ?_⟩
    · rcases h2 with h2 | ⟨f, hf, h⟩
      · by_cases hc : out < ofK g.epoch + 1
        · right
          refine ⟨g, List.mem_cons_self, ?_⟩
          rw [h2]; unfold nextStep; rw [if_pos hc]
        · left
          rw [h2]; unfold nextStep; rw [if_neg hc]
      · exact Or.inr ⟨f, List.mem_cons_of_mem _ hf, h⟩
    · rcases List.mem_cons.1 hf with rfl | hf
      · exact Int.le_trans h5 h1
      · exact h3 f hf
theorem next_above {l : List Fact} {f : Fact} (h : f ∈ l) : ofK f.epoch < next l := by
  have := (next_fold l 1).2.2 f h
  unfold next
  omega
theorem next_more {a b : List Fact} (h : ∀ f ∈ a, f ∈ b) : next a ≤ next b := by
  unfold next
  rcases (next_fold a 1).2.1 with h1 | ⟨f, hf, h1⟩
  · rw [h1]; exact (next_fold b 1).1
  · rw [h1]; exact (next_fold b 1).2.2 f (h f hf)
theorem ofK_in (e : Int) : 0 ≤ ofK e ∧ ofK e ≤ 68719476736 := by
  unfold ofK
  split
  · rename_i h; unfold isEp at h; omega
  · omega
theorem next_in (l : List Fact) : 1 ≤ next l ∧ next l ≤ 68719476737 := by
  unfold next
  refine ⟨(next_fold l 1).1, ?_⟩
  rcases (next_fold l 1).2.1 with h | ⟨f, _, h⟩
  · omega
  · have := (ofK_in f.epoch).2; omega
/-- Who are among facts. -/
theorem mem_who {l : List Fact} {k e n : Int} : n ∈ who l k e ↔ has l k e n := by
  unfold who has key
  simp only [List.mem_map, List.mem_filter, whose, decide_eq_true_eq]
  constructor
  · rintro ⟨f, ⟨h1, h2⟩, h3⟩
    exact ⟨f, h1, h2.1, h2.2, h3⟩
  · rintro ⟨f, h1, h2, h3, h4⟩
    exact ⟨f, ⟨h1, h2, h3⟩, h4⟩
theorem who_rise {l : List Fact} (h : Rise l) (k e : Int) : (who l k e).Pairwise (· < ·) := by
  unfold who
  refine List.Pairwise.map _ (R := fun a b => a.less b ∧ whose k e a = true ∧ whose k e b = true) (fun a b ⟨h1, h2, h3⟩ => ?_) ?_
  · unfold whose at h2 h3
    have h2 := of_decide_eq_true h2
    have h3 := of_decide_eq_true h3
    unfold Fact.less at h1
    omega
  · have h1 : (l.filter (whose k e)).Pairwise Fact.less := h.filter _
    have h2 : ∀ f ∈ l.filter (whose k e), whose k e f = true := fun f hf => (List.mem_filter.1 hf).2
    exact List.Pairwise.imp_of_mem (fun {a b} ha hb hab => ⟨hab, h2 a ha, h2 b hb⟩) h1
/-- How many of the first N numbers are in a rising list: all that it has, if these are below N. -/
theorem count_rise : ∀ (N : Nat) (ws : List Int), ws.Pairwise (· < ·) → (∀ x ∈ ws, 0 ≤ x ∧ x < N) → ((List.range N).filter fun n => decide (((n : Nat) : Int) ∈ ws)).length = ws.length := by
  intro N ws h1 h2
  have n1 : ws.Nodup := h1.imp fun hab => by omega
  have n2 : ((List.range N).filter fun n => decide (((n : Nat) : Int) ∈ ws)).Nodup := List.nodup_range.filter _
  have n3 : (((List.range N).filter fun n => decide (((n : Nat) : Int) ∈ ws)).map fun n => ((n : Nat) : Int)).Nodup := by
    refine List.Pairwise.map _ (fun a b hab e => hab (by omega)) n2
  have hp : (((List.range N).filter fun n => decide (((n : Nat) : Int) ∈ ws)).map fun n => ((n : Nat) : Int)).Perm ws := by
    refine (List.perm_ext_iff_of_nodup n3 n1).2 fun x => ?_
    simp only [List.mem_map, List.mem_filter, List.mem_range, decide_eq_true_eq]
    constructor
    · rintro ⟨n, ⟨_, h⟩, rfl⟩; exact h
    · intro h
      have := h2 x h
      exact ⟨x.toNat, ⟨by omega, by rw [Int.toNat_of_nonneg this.1]; exact h⟩, Int.toNat_of_nonneg this.1⟩
  have := hp.length_eq
  rw [List.length_map] at this
  exact this
theorem ins_end {l : List Fact} {f : Fact} (h : ∀ g ∈ l, g.less f) : ins l f = l ++ [f] := by
  induction l with
  | nil => rfl
  | cons a l ih =>
    unfold ins
    rw [if_pos (h a List.mem_cons_self), ih (fun g hg => h g (List.mem_cons_of_mem _ hg))]
    rfl
/-- The facts of LatticeMany. -/
def nth (i : Nat) : Fact := ⟨2, 1600 + 16 * ((i / 9 : Nat) : Int), ((i % 9 : Nat) : Int), Mf.zero⟩
def firsts (n : Nat) : List Fact := (List.range n).map nth
theorem nth_ok {i : Nat} (h : i < 1000) : (nth i).ok 9 := by
  refine ⟨by omega, by omega, ?_, ?_, ⟨?_, ?_⟩, ?_, Or.inr ⟨Or.inl rfl, zero_emp⟩⟩ <;> unfold nth <;> simp only <;> omega
theorem nth_less {i j : Nat} (h : i < j) : (nth i).less (nth j) := by
  by_cases hd : i / 9 < j / 9
  · left
    unfold nth
    simp only
    omega
  · right
    unfold nth
    simp only
    exact ⟨by omega, Or.inr ⟨by trivial, by omega⟩⟩
theorem firsts_succ (n : Nat) : firsts (n + 1) = firsts n ++ [nth n] := by unfold firsts; rw [List.range_succ, List.map_append]; rfl
theorem firsts_len (n : Nat) : (firsts n).length = n := by simp [firsts]
theorem firsts_below {n i : Nat} (h : n ≤ i) : ∀ g ∈ firsts n, g.less (nth i) := by
  intro g hg
  obtain ⟨j, hj, rfl⟩ := List.mem_map.1 hg
  have := List.mem_range.1 hj
  exact nth_less (by omega)
theorem firsts_no {n i : Nat} (h : n ≤ i) : ¬ has (firsts n) (nth i).kind (nth i).epoch (nth i).node := by
  rintro ⟨g, hg, hk⟩
  exact less_key (firsts_below h g hg) hk
theorem add_nth {i : Nat} (h : i < 1000) : add 9 (firsts (min i 200)) (nth i) = (firsts (min (i + 1) 200), if i < 200 then 0 else 110) := by
  unfold add
  rw [if_neg (fun e => e (nth_ok h)), if_neg (firsts_no (Nat.min_le_left i 200)), firsts_len]
  by_cases hi : i < 200
  · rw [if_neg (by omega), if_pos hi, show min i 200 = i by omega, show min (i + 1) 200 = i + 1 by omega, firsts_succ, ins_end (firsts_below (Nat.le_refl i))]
  · rw [if_pos (by omega), if_neg hi, show min i 200 = 200 by omega, show min (i + 1) 200 = 200 by omega]
end La
