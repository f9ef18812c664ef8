/-
  The document's disk in memory.
-/
import Derived.Test.YtfecobkpdmjaeaaZu
namespace Go.Proofs.Ytfecobkpdmjaeaa
open Go.RowKit
set_option linter.unusedVariables false
set_option maxRecDepth 20000
set_option linter.unusedSimpArgs false
def keys (f : Dm.F) : List Nat := f.map (·.1)
theorem keys_set (f : Dm.F) (k : Nat) (b : List Int) : keys (Dm.set f k b) = if k ∈ keys f then keys f else keys f ++ [k] := by
  cases h : Dm.look f k with
  | none =>
    have := Dm.look_none.1 h
    unfold keys
    rw [if_neg this, Dm.set_none h, List.map_append]
    rfl
  | some b0 =>
    have : k ∈ keys f := List.mem_map.2 ⟨_, Dm.look_mem h, rfl⟩
    rw [if_pos this]
    exact Dm.set_keys_there h b
/-- Only blocks from B on, of the document's disks or of bytes of blocks, are others by now. -/
structure RF (B : Nat) (w w' : World) : Prop where
  os : w'.os = w.os
  tape : w'.tape = w.tape
  output : w'.output = w.output
  size : w.heap.size ≤ w'.heap.size
  block : ∀ i, i < w.heap.size → (i < B ∨ ∀ cur fr, w.heap[i]? ≠ some (.cells cur 56 fr) ∧ w.heap[i]? ≠ some (.cells cur 45 fr)) → w'.heap[i]? = w.heap[i]?
theorem RF.refl (B : Nat) (w : World) : RF B w w := ⟨rfl, rfl, rfl, Nat.le_refl _, fun _ _ _ => rfl⟩
theorem RF.trans {B : Nat} {a b c : World} (h : RF B a b) (k : RF B b c) : RF B a c :=
  ⟨k.os.trans h.os, k.tape.trans h.tape, k.output.trans h.output, Nat.le_trans h.size k.size, fun i hi hn => by
    have e := h.block i hi hn
    rw [← e]
    exact k.block i (Nat.lt_of_lt_of_le hi h.size) (by rcases hn with hn | hn
                                                       · exact Or.inl hn
                                                       · exact Or.inr (by rw [e]; exact hn))⟩
theorem RF.of_below {B : Nat} {a b : World} (h : Below a.heap.size a b) : RF B a b := ⟨h.os, h.tape, h.output, h.size, fun i hi _ => h.block i hi⟩
theorem RF.of_grown {B g : Nat} {a b : World} (h : a.grownBy b (some g)) (hB : B ≤ g) {cur : Array Value} {t : TypeId} {fr : Nat × Nat} (hg : a.heap[g]? = some (.cells cur t fr)) (ht : t = 56 ∨ t = 45) : RF B a b :=
  ⟨h.os, h.tape, h.output, h.size, fun i hi hn => h.block i hi (fun e => by
    cases e
    rcases hn with hn | hn
    · omega
    · rcases ht with rfl | rfl
      · exact (hn cur fr).1 hg
      · exact (hn cur fr).2 hg)⟩
theorem RF.below {B : Nat} {a b : World} (h : RF B a b) (hB : B ≤ a.heap.size) : Below B a b := ⟨h.os, h.tape, h.output, h.size, fun i hi => h.block i (by omega) (Or.inl hi)⟩
theorem RF.whole {B g : Nat} {w w' : World} (h : RF B w w') {t : TypeId} {cs : Array Value} (hg : Whole w g t cs) (h1 : t ≠ 56) (h2 : t ≠ 45) : Whole w' g t cs :=
  hg.keep (h.block g hg.lt (Or.inr fun cur fr => ⟨fun e => by unfold Whole at hg; rw [hg] at e; injection e with e1; injection e1 with _ e2; exact h1 e2, fun e => by unfold Whole at hg; rw [hg] at e; injection e with e1; injection e1 with _ e2; exact h2 e2⟩))
theorem RF.dk {B : Nat} {w w' : World} {p bb mb n : Nat} {a : Dm.A} (h : RF B w w') (hd : Dk w p bb mb a n) : Dk w' p bb mb a n :=
  hd.keep (h.whole hd.cells (by decide) (by decide) |>.trans hd.cells.symm) (h.whole hd.bytes (by decide) (by decide) |>.trans hd.bytes.symm) (h.block mb hd.map.lt (Or.inr fun cur fr => by
    obtain ⟨es, clock, hb, _⟩ := hd.map
    rw [hb]
    exact ⟨(fun e => by cases e), (fun e => by cases e)⟩))
structure Rk (w : World) (B r : Nat) (vL vN vD : Value) (a : Dm.A) (n : Nat) : Prop where
  cells : Whole w r 56 #[vL, vN, vD, .bool a.down]
  last : w.ownsRow B 45 64 vL n (nums a.last)
  now : w.ownsRow B 45 64 vN n (nums (Dm.now a))
  dirty : w.ownsRow B 3 1 vD (keys a.fresh).length (ints (keys a.fresh))
  apart : ∀ g, vL.ownBlock = some g → vN.ownBlock ≠ some g
  base : B ≤ r
  ok : Dm.Ok a n
theorem own_block {w : World} {B n s g : Nat} {e : TypeId} {v : Value} {xs : List Value} (h : w.ownsRow B e s v n xs) (hv : v.ownBlock = some g) : ∃ cur, w.heap[g]? = some (.cells cur e (0, 0)) ∧ B ≤ g := by
  rcases h.2 with ⟨rfl, _⟩ | ⟨g0, cap, cur, rfl, hb, hg, _⟩
  · cases hv
  · cases hv
    exact ⟨cur, hg, hb⟩
section
variable {w w' : World} {B r n : Nat} {vL vN vD : Value} {a : Dm.A}
theorem Rk.below (h : Rk w B r vL vN vD a n) (hb : Below w.heap.size w w') : Rk w' B r vL vN vD a n :=
  ⟨h.cells.keep (hb.block _ h.cells.lt), own_below h.last hb, own_below h.now hb, own_below h.dirty hb, h.apart, h.base, h.ok⟩
theorem Rk.only {p bb mb m : Nat} {d : Dm.A} (h : Rk w B r vL vN vD a n) (hd : Dk w p bb mb d m) (ho : Only [p, bb, mb] w w') : Rk w' B r vL vN vD a n :=
  ⟨whole_only h.cells hd (by decide) (by decide) ho, own_keep h.last (fun g cur hg => ho.block g (Array.getElem?_eq_some_iff.1 hg).1 (dk_far hd (by decide) (by decide) hg)), own_keep h.now (fun g cur hg => ho.block g (Array.getElem?_eq_some_iff.1 hg).1 (dk_far hd (by decide) (by decide) hg)), own_only h.dirty hd ho, h.apart, h.base, h.ok⟩
theorem Rk.c0 (h : Rk w B r vL vN vD a n) : w.cell? ⟨r, 0, none⟩ = some vL := h.cells.cell 0
theorem Rk.c1 (h : Rk w B r vL vN vD a n) : w.cell? ⟨r, 1, none⟩ = some vN := h.cells.cell 1
theorem Rk.c2 (h : Rk w B r vL vN vD a n) : w.cell? ⟨r, 2, none⟩ = some vD := h.cells.cell 2
theorem Rk.c3 (h : Rk w B r vL vN vD a n) : w.cell? ⟨r, 3, none⟩ = some (.bool a.down) := h.cells.cell 3
/-- What a row is like. -/
theorem own_formR {s : Nat} {e : TypeId} {v : Value} {xs : List Value} (h : w.ownsRow B e s v n xs) : ∃ ad c, v = .slice ad n c ∧ (ad = none → n = 0) := by
  rcases h.2 with ⟨rfl, h0⟩ | ⟨g0, cap, cur, rfl, hb, hg, _⟩
  · exact ⟨none, 0, by rw [h0], fun _ => h0⟩
  · exact ⟨_, _, rfl, fun e => by cases e⟩
theorem own_at {s : Nat} {e : TypeId} {v : Value} {xs : List Value} (h : w.ownsRow B e s v n xs) (hn : 0 < n) : ∃ g c cur, v = .slice (some ⟨g, 0, none⟩) n c ∧ B ≤ g ∧ Whole w g e cur ∧ n * s ≤ cur.size ∧ cur.toList.take (n * s) = xs ∧ n ≤ c ∧ c ≤ maxLen ∧ cur.size = c * s := by
  rcases h.2 with ⟨rfl, h0⟩ | ⟨g0, cap, cur, rfl, hb, hg, h1, h2, h3, h4⟩
  · omega
  · exact ⟨g0, cap, cur, rfl, hb, hg, by rw [h3]; exact Nat.mul_le_mul_right _ h1, h4, h1, h2, h3⟩
end
/-- What the document's disk answers for a block. -/
theorem wrong_any {w : World} {B r n : Nat} {vL vN vD : Value} {a : Dm.A} {z : Int} (h : Rk w B r vL vN vD a n) :
    Calls Try.prog 48 #[.pointer (some ⟨r, 0, none⟩), .int .i64 z] w fun e w' => e = .returned (.int .i64 (bad a n z)) ∧ w = w' := by
  have c1 := h.c1
  have c3 := h.c3
  obtain ⟨ad, c, rfl, _⟩ := own_formR h.now
  have hn := h.ok.small
  unfold bad
  by_cases hd : a.down = true
  · rw [hd] at c3
    rw [if_pos hd]
    clear h hd
    go_enter Try.func48, Try.ntmps48
    go_wp2
    go_ret
    exact ⟨rfl, rfl⟩
  · have hd' : a.down = false := by simpa using hd
    rw [hd'] at c3
    rw [if_neg hd]
    clear h hd hd'
    by_cases h1 : z < 0
    · rw [if_pos (Or.inl h1)]
      have q1 : decide (z < 0) = true := by simpa using h1
      go_enter Try.func48, Try.ntmps48
      go_wp2
      go_ret
      exact ⟨rfl, rfl⟩
    · have q1 : decide (z < 0) = false := by simpa using h1
      by_cases h2 : (n : Int) ≤ z
      · rw [if_pos (Or.inr h2)]
        have q2 : decide ((n : Int) ≤ z) = true := by simpa using h2
        go_enter Try.func48, Try.ntmps48
        go_wp2
        go_ret
        exact ⟨rfl, rfl⟩
      · rw [if_neg (by omega)]
        have q2 : decide ((n : Int) ≤ z) = false := by simpa using h2
        go_enter Try.func48, Try.ntmps48
        go_wp2
        go_ret
        exact ⟨rfl, rfl⟩
end Go.Proofs.Ytfecobkpdmjaeaa
