/-
  Plain mathematics of lists of facts: adding, merging, who, which is the best, and the next number.
-/
import Derived.Test.YtdfmfjahnnifnaaIa
namespace La
open Ft
def key (f : Fact) (k e n : Int) : Prop := f.kind = k ∧ f.epoch = e ∧ f.node = n
instance (f : Fact) (k e n : Int) : Decidable (key f k e n) := inferInstanceAs (Decidable (_ ∧ _))
def has (l : List Fact) (k e n : Int) : Prop := ∃ f ∈ l, key f k e n
instance (l : List Fact) (k e n : Int) : Decidable (has l k e n) := inferInstanceAs (Decidable (∃ f ∈ l, key f k e n))
/-- A fact laid where it comes. -/
def ins : List Fact → Fact → List Fact
  | [], f => [f]
  | g :: l, f => if g.less f then g :: ins l f else f :: g :: l
def add (nodes : Int) (l : List Fact) (f : Fact) : List Fact × Int :=
  if ¬ f.ok nodes then (l, 100) else if has l f.kind f.epoch f.node then (l, 0) else if 200 ≤ l.length then (l, 110) else (ins l f, 0)
def merge (nodes : Int) (a b : List Fact) : List Fact := b.foldl (fun l f => (add nodes l f).1) a
def whose (k e : Int) (f : Fact) : Bool := decide (f.kind = k ∧ f.epoch = e)
def who (l : List Fact) (k e : Int) : List Int := (l.filter (whose k e)).map (·.node)
def mani (l : List Fact) (e : Int) : Option Mf.Man := (l.find? (whose 1 e)).map (·.man)
def aborted (l : List Fact) (e m : Int) : Prop := m ≤ ((who l 3 e).length : Nat)
instance (l : List Fact) (e m : Int) : Decidable (aborted l e m) := inferInstanceAs (Decidable (_ ≤ _))
def bestStep (l : List Fact) (m out : Int) (f : Fact) : Int := if f.kind = 1 ∧ ¬ aborted l f.epoch m ∧ out < f.epoch then f.epoch else out
def best (l : List Fact) (m : Int) : Int := l.foldl (bestStep l m) 0
def nextStep (out : Int) (f : Fact) : Int := if out < ofK f.epoch + 1 then ofK f.epoch + 1 else out
def next (l : List Fact) : Int := l.foldl nextStep 1
/-- Rising. -/
abbrev Rise (l : List Fact) : Prop := l.Pairwise Fact.less
structure Good (nodes : Int) (l : List Fact) : Prop where
  rise : Rise l
  ok : ∀ f ∈ l, f.ok nodes
theorem less_irr (a : Fact) : ¬ a.less a := by unfold Fact.less; omega
theorem less_asym {a b : Fact} (h : a.less b) : ¬ b.less a := by unfold Fact.less at *; omega
theorem less_trans {a b c : Fact} (h : a.less b) (h' : b.less c) : a.less c := by unfold Fact.less at *; omega
theorem less_or {a b : Fact} (h : ¬ a.less b) : b.less a ∨ key a b.kind b.epoch b.node := by unfold Fact.less key at *; omega
theorem less_key {a b : Fact} (h : a.less b) : ¬ key a b.kind b.epoch b.node := by unfold Fact.less key at *; omega
theorem mem_ins {l : List Fact} {f g : Fact} : g ∈ ins l f ↔ g = f ∨ g ∈ l := by
  induction l with
  | nil => simp [ins]
  | cons a l ih =>
    unfold ins
    split
    · simp only [List.mem_cons, ih]
      constructor
      · rintro (h | h | h)
        · exact Or.inr (Or.inl h)
        · exact Or.inl h
        · exact Or.inr (Or.inr h)
      · rintro (h | h | h)
        · exact Or.inr (Or.inl h)
        · exact Or.inl h
        · exact Or.inr (Or.inr h)
    · simp only [List.mem_cons]
theorem ins_len (l : List Fact) (f : Fact) : (ins l f).length = l.length + 1 := by
  induction l with
  | nil => rfl
  | cons a l ih =>
    unfold ins
    split
    · simp only [List.length_cons, ih]
    · simp only [List.length_cons]
theorem ins_rise {l : List Fact} {f : Fact} (h : Rise l) (hf : ¬ has l f.kind f.epoch f.node) : Rise (ins l f) := by
  induction l with
  | nil => simp [ins]
  | cons a l ih =>
    have h1 := List.pairwise_cons.1 h
    unfold ins
    split
    · rename_i hlt
      refine List.pairwise_cons.2 ⟨fun g hg => ?_, ih h1.2 (fun ⟨x, hx, hk⟩ => hf ⟨x, List.mem_cons_of_mem _ hx, hk⟩)⟩
      rcases mem_ins.1 hg with rfl | hg
      · exact hlt
      · exact h1.1 g hg
    · rename_i hlt
      have hfa : f.less a := by
        rcases less_or hlt with h2 | h2
        · exact h2
        · exact absurd ⟨a, List.mem_cons_self, h2⟩ hf
      refine List.pairwise_cons.2 ⟨fun g hg => ?_, h⟩
      rcases List.mem_cons.1 hg with rfl | hg
      · exact hfa
      · exact less_trans hfa (h1.1 g hg)
/-- Where a fact is laid. -/
theorem ins_at {l : List Fact} {f : Fact} : ∀ (n : Nat), n ≤ l.length → (∀ i, i < n → (l.getD i nought).less f) → (n = l.length ∨ ¬ (l.getD n nought).less f) → ins l f = l.take n ++ f :: l.drop n := by
  induction l with
  | nil =>
    intro n hn _ _
    have : n = 0 := by simpa using hn
    subst this
    rfl
  | cons a l ih =>
    intro n hn h1 h2
    cases n with
    | zero =>
      unfold ins
      rw [if_neg]
      · rfl
      · rcases h2 with h2 | h2
        · simp at h2
        · simpa using h2
    | succ n =>
      unfold ins
      rw [if_pos (by simpa using h1 0 (by omega)), ih n (by simpa using hn) (fun i hi => by simpa using h1 (i + 1) (by omega)) (by
        rcases h2 with h2 | h2
        · left; simpa using h2
        · right; simpa using h2)]
      rfl
theorem add_err (nodes : Int) (l : List Fact) (f : Fact) : (add nodes l f).2 = 0 ∨ (add nodes l f).2 = 100 ∨ (add nodes l f).2 = 110 := by
  unfold add
  split
  · exact Or.inr (Or.inl rfl)
  · split
    · exact Or.inl rfl
    · split
      · exact Or.inr (Or.inr rfl)
      · exact Or.inl rfl
theorem add_good {nodes : Int} {l : List Fact} (h : Good nodes l) (f : Fact) : Good nodes (add nodes l f).1 := by
  unfold add
  split
  · exact h
  · rename_i hok
    split
    · exact h
    · rename_i hh
      split
      · exact h
      · refine ⟨ins_rise h.rise hh, fun g hg => ?_⟩
        rcases mem_ins.1 hg with rfl | hg
        · exact Decidable.byContradiction hok
        · exact h.ok g hg
theorem add_len (nodes : Int) (l : List Fact) (f : Fact) : (add nodes l f).1.length ≤ l.length + 1 ∧ (l.length ≤ 200 → (add nodes l f).1.length ≤ 200) ∧ l.length ≤ (add nodes l f).1.length := by
  unfold add
  split
  · exact ⟨by simp, fun h => h, Nat.le_refl _⟩
  · split
    · exact ⟨by simp, fun h => h, Nat.le_refl _⟩
    · split
      · exact ⟨by simp, fun h => h, Nat.le_refl _⟩
      · rename_i h
        simp only [ins_len]
        exact ⟨Nat.le_refl _, fun _ => by omega, by omega⟩
theorem mem_add {nodes : Int} {l : List Fact} {f g : Fact} (h : g ∈ l) : g ∈ (add nodes l f).1 := by
  unfold add
  split
  · exact h
  · split
    · exact h
    · split
      · exact h
      · exact mem_ins.2 (Or.inr h)
theorem add_mem {nodes : Int} {l : List Fact} {f g : Fact} (h : g ∈ (add nodes l f).1) : g = f ∧ f.ok nodes ∨ g ∈ l := by
  unfold add at h
  split at h
  · exact Or.inr h
  · rename_i hok
    split at h
    · exact Or.inr h
    · split at h
      · exact Or.inr h
      · rcases mem_ins.1 h with rfl | h
        · exact Or.inl ⟨rfl, Decidable.byContradiction hok⟩
        · exact Or.inr h
/-- OK: it is there. -/
theorem add_has {nodes : Int} {l : List Fact} {f : Fact} (h : (add nodes l f).2 = 0) : f.ok nodes ∧ has (add nodes l f).1 f.kind f.epoch f.node := by
  unfold add at h ⊢
  by_cases hok : f.ok nodes
  · rw [if_neg (fun e => e hok)] at h ⊢
    refine ⟨hok, ?_⟩
    by_cases hh : has l f.kind f.epoch f.node
    · rw [if_pos hh]; exact hh
    · rw [if_neg hh] at h ⊢
      by_cases hm : 200 ≤ l.length
      · rw [if_pos hm] at h; cases h
      · rw [if_neg hm]
        exact ⟨f, mem_ins.2 (Or.inl rfl), rfl, rfl, rfl⟩
  · rw [if_pos hok] at h; cases h
theorem add_short {nodes : Int} {l : List Fact} {f : Fact} (hl : l.length < 200) : (add nodes l f).2 = 0 ↔ f.ok nodes := by
  unfold add
  by_cases hok : f.ok nodes
  · rw [if_neg (fun e => e hok)]
    refine ⟨fun _ => hok, fun _ => ?_⟩
    split
    · rfl
    · rw [if_neg (by omega)]
  · rw [if_pos hok]
    exact ⟨(fun h => by cases h), fun h => absurd h hok⟩
theorem merge_nil (nodes : Int) (a : List Fact) : merge nodes a [] = a := rfl
theorem merge_cons (nodes : Int) (a : List Fact) (f : Fact) (b : List Fact) : merge nodes a (f :: b) = merge nodes (add nodes a f).1 b := rfl
theorem merge_one (nodes : Int) (a : List Fact) (f : Fact) : merge nodes a [f] = (add nodes a f).1 := rfl
theorem merge_append (nodes : Int) (a b c : List Fact) : merge nodes a (b ++ c) = merge nodes (merge nodes a b) c := by unfold merge; rw [List.foldl_append]
theorem merge_good {nodes : Int} (b : List Fact) : ∀ {a : List Fact}, Good nodes a → Good nodes (merge nodes a b) := by
  induction b with
  | nil => exact fun h => h
  | cons f b ih => intro a h; rw [merge_cons]; exact ih (add_good h f)
theorem merge_len {nodes : Int} (b : List Fact) : ∀ {a : List Fact}, (merge nodes a b).length ≤ a.length + b.length := by
  induction b with
  | nil => intro a; exact Nat.le_refl _
  | cons f b ih =>
    intro a
    rw [merge_cons]
    have h1 := ih (a := (add nodes a f).1)
    have h2 := (add_len nodes a f).1
    rw [List.length_cons]
    omega
theorem mem_merge {nodes : Int} (b : List Fact) : ∀ {a : List Fact} {g : Fact}, g ∈ a → g ∈ merge nodes a b := by
  induction b with
  | nil => exact fun h => h
  | cons f b ih => intro a g h; rw [merge_cons]; exact ih (mem_add h)
theorem merge_mem {nodes : Int} (b : List Fact) : ∀ {a : List Fact} {g : Fact}, g ∈ merge nodes a b → g ∈ a ∨ g ∈ b := by
  induction b with
  | nil => exact fun h => Or.inl h
  | cons f b ih =>
    intro a g h
    rw [merge_cons] at h
    rcases ih h with h | h
    · rcases add_mem h with ⟨rfl, _⟩ | h
      · exact Or.inr List.mem_cons_self
      · exact Or.inl h
    · exact Or.inr (List.mem_cons_of_mem _ h)
/-- What is merged is there, if it may be and there is room. -/
theorem merge_has {nodes : Int} (b : List Fact) : ∀ {a : List Fact} {g : Fact}, a.length + b.length ≤ 200 → g ∈ b → g.ok nodes → has (merge nodes a b) g.kind g.epoch g.node := by
  induction b with
  | nil => intro a g _ h; cases h
  | cons f b ih =>
    intro a g hl h hok
    rw [merge_cons]
    rw [List.length_cons] at hl
    rcases List.mem_cons.1 h with rfl | h
    · have h1 := (add_has (nodes := nodes) (l := a) (f := g) ((add_short (by omega)).2 hok)).2
      obtain ⟨x, hx, hk⟩ := h1
      exact ⟨x, mem_merge b hx, hk⟩
    · exact ih (by have := (add_len nodes a f).1; omega) h hok
theorem has_merge {nodes : Int} {a b : List Fact} {k e n : Int} (h : has a k e n) : has (merge nodes a b) k e n := by
  obtain ⟨x, hx, hk⟩ := h
  exact ⟨x, mem_merge b hx, hk⟩
/-- Rising lists of the same facts are the same. -/
theorem rise_ext : ∀ {l l' : List Fact}, Rise l → Rise l' → (∀ f, f ∈ l ↔ f ∈ l') → l = l' := by
  intro l
  induction l with
  | nil =>
    intro l' _ _ h
    cases l' with
    | nil => rfl
    | cons b t => exact absurd ((h b).2 List.mem_cons_self) (by simp)
  | cons a t ih =>
    intro l' h1 h2 h
    cases l' with
    | nil => exact absurd ((h a).1 List.mem_cons_self) (by simp)
    | cons b t' =>
      have p1 := List.pairwise_cons.1 h1
      have p2 := List.pairwise_cons.1 h2
      have hab : a = b := by
        rcases List.mem_cons.1 ((h a).1 List.mem_cons_self) with e | e
        · exact e
        · rcases List.mem_cons.1 ((h b).2 List.mem_cons_self) with e' | e'
          · exact e'.symm
          · exact absurd (p1.1 b e') (less_asym (p2.1 a e))
      subst hab
      rw [ih p1.2 p2.2 (fun f => ?_)]
      constructor
      · intro hf
        rcases List.mem_cons.1 ((h f).1 (List.mem_cons_of_mem _ hf)) with e | e
        · subst e; exact absurd (p1.1 f hf) (less_irr f)
        · exact e
      · intro hf
        rcases List.mem_cons.1 ((h f).2 (List.mem_cons_of_mem _ hf)) with e | e
        · subst e; exact absurd (p2.1 f hf) (less_irr f)
        · exact e
/-- Facts without manifests are told by their keys. -/
theorem plain_eq {nodes : Int} {f g : Fact} (hf : f.ok nodes) (hg : g.ok nodes) (h1 : f.kind ≠ 1) (hk : key f g.kind g.epoch g.node) : f = g := by
  have e1 := ok_else hf h1
  have e2 := ok_else hg (by rw [← hk.1]; exact h1)
  obtain ⟨k, e, n, m⟩ := f
  obtain ⟨k', e', n', m'⟩ := g
  obtain ⟨a1, a2, a3⟩ := hk
  simp only at e1 e2 a1 a2 a3
  subst e1 e2 a1 a2 a3
  rfl
/-- A list of facts that may be and have no manifests. -/
structure Plain (nodes : Int) (l : List Fact) : Prop where
  good : Good nodes l
  no : ∀ f ∈ l, f.kind ≠ 1
theorem merge_plain {nodes : Int} {x y : List Fact} (hx : Plain nodes x) (hy : Plain nodes y) : Plain nodes (merge nodes x y) :=
  ⟨merge_good y hx.good, fun f hf => (merge_mem y hf).elim (hx.no f) (hy.no f)⟩
theorem mem_plain {nodes : Int} {x y : List Fact} (hx : Plain nodes x) (hy : Plain nodes y) (hl : x.length + y.length ≤ 200) (f : Fact) : f ∈ merge nodes x y ↔ f ∈ x ∨ f ∈ y := by
  constructor
  · exact merge_mem y
  · rintro (h | h)
    · exact mem_merge y h
    · obtain ⟨g, hg, hk⟩ := merge_has y (a := x) hl h (hy.good.ok f h)
      have hp := merge_plain hx hy
      have : g = f := plain_eq (hp.good.ok g hg) (hy.good.ok f h) (hp.no g hg) hk
      rw [← this]; exact hg
theorem plain_ext {nodes : Int} {x y : List Fact} (hx : Plain nodes x) (hy : Plain nodes y) (h : ∀ f, f ∈ x ↔ f ∈ y) : x = y := rise_ext hx.good.rise hy.good.rise h
theorem join_comm {nodes : Int} {x y : List Fact} (hx : Plain nodes x) (hy : Plain nodes y) (hl : x.length + y.length ≤ 200) : merge nodes x y = merge nodes y x :=
  plain_ext (merge_plain hx hy) (merge_plain hy hx) fun f => by rw [mem_plain hx hy hl, mem_plain hy hx (by omega)]; exact Or.comm
theorem join_assoc {nodes : Int} {x y z : List Fact} (hx : Plain nodes x) (hy : Plain nodes y) (hz : Plain nodes z) (hl : x.length + y.length + z.length ≤ 200) : merge nodes (merge nodes x y) z = merge nodes x (merge nodes y z) := by
  have l1 := merge_len (nodes := nodes) y (a := x)
  have l2 := merge_len (nodes := nodes) z (a := y)
  refine plain_ext (merge_plain (merge_plain hx hy) hz) (merge_plain hx (merge_plain hy hz)) fun f => ?_
  rw [mem_plain (merge_plain hx hy) hz (by omega), mem_plain hx hy (by omega), mem_plain hx (merge_plain hy hz) (by omega), mem_plain hy hz (by omega)]
  exact or_assoc
theorem join_again {nodes : Int} {x y : List Fact} (hx : Plain nodes x) (hy : Plain nodes y) (hl : x.length + y.length + y.length ≤ 200) : merge nodes (merge nodes x y) y = merge nodes x y := by
  have l1 := merge_len (nodes := nodes) y (a := x)
  refine plain_ext (merge_plain (merge_plain hx hy) hy) (merge_plain hx hy) fun f => ?_
  rw [mem_plain (merge_plain hx hy) hy (by omega), mem_plain hx hy (by omega)]
  constructor
  · rintro (h | h)
    · exact h
    · exact Or.inr h
  · exact Or.inl
theorem join_self {nodes : Int} {x : List Fact} (hx : Plain nodes x) (hl : x.length + x.length ≤ 200) : merge nodes x x = x := by
  refine plain_ext (merge_plain hx hx) hx fun f => ?_
  rw [mem_plain hx hx hl]
  exact or_self_iff
end La
