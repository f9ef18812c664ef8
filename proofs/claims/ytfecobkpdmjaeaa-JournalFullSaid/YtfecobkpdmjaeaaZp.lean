/-
  Equality of two blocks; writing and reading wherever it is.
-/
import Derived.Test.YtfecobkpdmjaeaaZo
namespace Go.Proofs.Ytfecobkpdmjaeaa
open Go.RowKit
set_option linter.unusedVariables false
set_option maxRecDepth 20000
set_option linter.unusedSimpArgs false
theorem part_u8 {x : List Int} {i : Nat} (h : i < x.length) (w : World) : (part 5 (nums x).toArray i).run Try.prog w = .ok (.int .u8 (x.getD i 0)) w := by
  have ha : (isAgg 5).run Try.prog w = .ok false w := by
    unfold isAgg
    rw [Sem.run_bind, run_underlying Try.underlying5 w]
    rfl
  unfold part
  rw [Sem.run_bind, ha]
  simp only [Result.andThen_ok, Bool.false_eq_true, if_false, List.getElem?_toArray, nums_get x i h]
  rfl

theorem loop64 (D : Nat) (hD : ∀ (a b : Int) (w : World), (Op.equalIn D 5 (.int .u8 a) (.int .u8 b)).run Try.prog w = .ok (a == b) w) (x y : List Int) (w : World) :
    ∀ is : List Nat, (∀ i ∈ is, i < x.length ∧ i < y.length) →
    (forIn (m := Sem) is ((none, ()) : Option Bool × Unit) fun i __s => do
        let a ← part 5 (nums x).toArray (i * 1)
        let b ← part 5 (nums y).toArray (i * 1)
        let r ← Op.equalIn D 5 a b
        if (!r) = true then pure (ForInStep.done (some false, ())) else pure (ForInStep.yield (none, ()))).run Try.prog w =
      .ok (if is.all (fun i => x.getD i 0 == y.getD i 0) then (none, ()) else (some false, ())) w := by
  intro is
  induction is with
  | nil => intro _; rfl
  | cons i is ih =>
    intro h
    have hi := h i (by simp)
    have ih' := ih (fun j hj => h j (by simp [hj]))
    rw [List.forIn_cons]
    simp only [Sem.run_bind, Nat.mul_one, part_u8 hi.1, part_u8 hi.2, hD, Result.andThen_ok]
    by_cases e : x.getD i 0 = y.getD i 0
    · have eb : (x.getD i 0 == y.getD i 0) = true := beq_iff_eq.2 e
      rw [eb]
      simp only [Bool.not_true, Bool.false_eq_true, if_false, Sem.run_pure, Result.andThen_ok]
      have := ih'
      simp only [Nat.mul_one] at this
      rw [this, List.all_cons, eb, Bool.true_and]
    · have eb : (x.getD i 0 == y.getD i 0) = false := beq_eq_false_iff_ne.2 e
      rw [eb]
      simp only [Bool.not_false, if_true, Sem.run_pure, Result.andThen_ok]
      have e2 : ((i :: is).all fun i => x.getD i 0 == y.getD i 0) = false := by rw [List.all_cons, eb]; rfl
      rw [e2]
      rfl
theorem all_range {x y : List Int} (hx : x.length = 64) (hy : y.length = 64) : ((List.range' 0 64).all fun i => x.getD i 0 == y.getD i 0) = decide (x = y) := by
  rw [Bool.eq_iff_iff]
  simp only [List.all_eq_true, decide_eq_true_eq, List.mem_range'_1, beq_iff_eq]
  constructor
  · intro h
    apply List.ext_getElem (by omega)
    intro i h1 h2
    have := h i (by omega)
    simpa [h1, h2] using this
  · intro h i _
    rw [h]
theorem equal64 (D : Nat) (hD : ∀ (a b : Int) (w : World), (Op.equalIn D 5 (.int .u8 a) (.int .u8 b)).run Try.prog w = .ok (a == b) w) (x y : List Int) (hx : x.length = 64) (hy : y.length = 64) (w : World) :
    (Op.equalIn (D + 1) 45 (.agg (nums x).toArray) (.agg (nums y).toArray)).run Try.prog w = .ok (decide (x = y)) w := by
  simp only [Op.equalIn, Sem.run_bind, run_underlying und_b, Result.andThen_ok, size_u8]
  have h := loop64 D hD x y w (List.range' 0 64) (fun i hi => by simp at hi; omega)
  rw [Std.Legacy.Range.forIn_eq_forIn_range']
  have e : (List.range' ([:64] : Std.Legacy.Range).start ([:64] : Std.Legacy.Range).size ([:64] : Std.Legacy.Range).step) = List.range' 0 64 := rfl
  rw [e, h, all_range hx hy]
  by_cases hxy : x = y
  · simp [hxy]
  · simp [hxy]
theorem eql64 (x y : List Int) (hx : x.length = 64) (hy : y.length = 64) (w : World) : (binOp .eql 45 (.agg (nums x).toArray) (.agg (nums y).toArray)).run Try.prog w = .ok (.bool (decide (x = y))) w := by
  have h := equal64 9999 (fun a b w => run_equalIn_int w 9998 5 .u8 .u8 a b Try.underlying5) x y hx hy w
  rw [run_eql_struct w, h]
  rfl
theorem neq64 (x y : List Int) (hx : x.length = 64) (hy : y.length = 64) (w : World) : (binOp .neq 45 (.agg (nums x).toArray) (.agg (nums y).toArray)).run Try.prog w = .ok (.bool (!decide (x = y))) w := by
  have h := equal64 9999 (fun a b w => run_equalIn_int w 9998 5 .u8 .u8 a b Try.underlying5) x y hx hy w
  rw [run_neq_struct w, h]
  rfl

/-- Writing and reading, wherever it is. -/
def wrz (a : Dm.A) (n : Nat) (z : Int) (b : List Int) : Dm.A := if bad a n z = 0 then Dm.write a z.toNat b else a
def rdz (a : Dm.A) (n : Nat) (z : Int) : List Int := if bad a n z = 0 then Dm.read a z.toNat else z64
theorem bad_zero {a : Dm.A} {n : Nat} {z : Int} : bad a n z = 0 ↔ a.down = false ∧ 0 ≤ z ∧ z < (n : Int) := by
  unfold bad
  cases a.down
  · simp only [Bool.false_eq_true, if_false, true_and]
    split <;> constructor <;> intro h <;> omega
  · simp
theorem bad_wrz (a : Dm.A) (n m : Nat) (z y : Int) (b : List Int) : bad (wrz a n z b) m y = bad a m y := by
  unfold wrz
  split <;> rfl
theorem write_z {p bb mb n : Nat} {z : Int} {a : Dm.A} {b : List Int} {w : World} (h : Dk w p bb mb a n) (hb64 : b.length = 64) (hB : Byt b) :
    Calls Try.prog 21 #[.pointer (some ⟨p, 0, none⟩), .int .i64 z, .agg (nums b).toArray] w fun e w' => e = .returned (.int .i64 (bad a n z)) ∧ Dk w' p bb mb (wrz a n z b) n ∧ Only [p, bb, mb] w w' := by
  unfold wrz
  by_cases hz : bad a n z = 0
  · obtain ⟨h1, h2, h3⟩ := bad_zero.1 hz
    rw [hz, if_pos rfl]
    exact write_at h h1 h2 h3 hb64 hB
  · rw [if_neg hz]
    exact (write_err h hz).mono fun e w' ⟨h1, h2⟩ => ⟨h1, h.old h2, Only.of_below h2⟩
theorem read_z {p bb mb n : Nat} {z : Int} {a : Dm.A} {w : World} (h : Dk w p bb mb a n) :
    Calls Try.prog 49 #[.pointer (some ⟨p, 0, none⟩), .int .i64 z] w fun e w' => e = .returned (.tuple #[.agg (nums (rdz a n z)).toArray, .int .i64 (bad a n z)]) ∧ Below w.heap.size w w' := by
  unfold rdz
  by_cases hz : bad a n z = 0
  · obtain ⟨h1, h2, h3⟩ := bad_zero.1 hz
    rw [hz, if_pos rfl]
    exact read_at h h1 h2 h3
  · rw [if_neg hz]
    exact read_err h hz
theorem rdz_len {a : Dm.A} {n : Nat} {z : Int} (h : Dm.Ok a n) : (rdz a n z).length = 64 ∧ Byt (rdz a n z) := by
  unfold rdz
  by_cases hz : bad a n z = 0
  · obtain ⟨h1, h2, h3⟩ := bad_zero.1 hz
    rw [if_pos hz]
    exact Dm.read_len h (by omega)
  · rw [if_neg hz]
    exact ⟨rfl, byt_zeros 64⟩
theorem wrz_ok {a : Dm.A} {n : Nat} {z : Int} {b : List Int} (h : Dm.Ok a n) (hb64 : b.length = 64) (hB : Byt b) : Dm.Ok (wrz a n z b) n := by
  unfold wrz
  by_cases hz : bad a n z = 0
  · obtain ⟨h1, h2, h3⟩ := bad_zero.1 hz
    rw [if_pos hz]
    exact Dm.write_ok h (by omega) hb64 hB
  · rw [if_neg hz]; exact h
theorem rdz_wrz_same {a : Dm.A} {n : Nat} {z : Int} {b : List Int} (hz : bad a n z = 0) : rdz (wrz a n z b) n z = b := by
  unfold rdz
  rw [bad_wrz, if_pos hz]
  unfold wrz
  rw [if_pos hz, Dm.read_write, if_pos rfl]
theorem rdz_wrz_other {a : Dm.A} {n : Nat} {z y : Int} {b : List Int} (hne : z ≠ y) : rdz (wrz a n z b) n y = rdz a n y := by
  unfold rdz
  rw [bad_wrz]
  by_cases hy : bad a n y = 0
  · rw [if_pos hy, if_pos hy]
    unfold wrz
    by_cases hz : bad a n z = 0
    · rw [if_pos hz, Dm.read_write, if_neg]
      have h1 := bad_zero.1 hz
      have h2 := bad_zero.1 hy
      omega
    · rw [if_neg hz]
  · rw [if_neg hy, if_neg hy]
theorem rdz_none {a : Dm.A} {n : Nat} {z : Int} (hz : bad a n z ≠ 0) : rdz a n z = z64 := by unfold rdz; rw [if_neg hz]
theorem wpList_builtG {ops : Array Oper} {rest : List Oper} {o : Oper} {a : Act} {w : World} {Q : Exit → Act → World → Prop} {ty : TypeId} (hg : Region.wanted o (yielded ops a.tmps) = true) (parts : Array (Nat × Operand)) (ho : o.op = .build ty parts)
    (l : List (Nat × Value)) (hl : parts.toList.map (fun q => (q.1, a.eval q.2)) = l) (C : Array Value) (hC : Try.prog.built ty l = some C)
    (h : wpList Try.prog ops Q rest (a.put o.dst (.agg C)) w) : wpList Try.prog ops Q (o :: rest) a w := by
  have e : (parts.map fun (i, x) => (i, a.eval x)).toList = l := by rw [← hl]; simp
  refine wpList_step fun _ hK => ?_
  rw [if_pos hg]
  unfold Oper.wp execOp
  simp only [ho, Sem.run_bind, run_build w ty _ C (by rw [e, hC]), Result.andThen_ok]
  exact hK _ _ h
theorem built_z : Try.prog.built 45 [] = some (nums z64).toArray := built_zb
end Go.Proofs.Ytfecobkpdmjaeaa
