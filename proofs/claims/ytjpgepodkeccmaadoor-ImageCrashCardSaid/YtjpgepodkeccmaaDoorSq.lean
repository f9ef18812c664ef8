/-
  Equality of two hashes.
-/
import Derived.Test.YtjpgepodkeccmaaDoorHg
namespace Go.Proofs.YtjpgepodkeccmaaDoor.Sh
open Go.Proofs.YtjpgepodkeccmaaDoor
set_option maxRecDepth 20000
open Go.RowKit

theorem part_u8 {x : List Int} {i : Nat} (h : i < x.length) (w : World) : (part 5 (nums x).toArray i).run Tryd.prog w = .ok (.int .u8 (x.getD i 0)) w := by
  have ha : (isAgg 5).run Tryd.prog w = .ok false w := by
    unfold isAgg
    rw [Sem.run_bind, run_underlying Tryd.underlying5 w]
    rfl
  unfold part
  rw [Sem.run_bind, ha]
  simp only [Result.andThen_ok, Bool.false_eq_true, if_false, List.getElem?_toArray, nums_get x i h]
  rfl

theorem loop32 (D : Nat) (hD : ∀ (a b : Int) (w : World), (Op.equalIn D 5 (.int .u8 a) (.int .u8 b)).run Tryd.prog w = .ok (a == b) w) (x y : List Int) (w : World) :
    ∀ is : List Nat, (∀ i ∈ is, i < x.length ∧ i < y.length) →
    (forIn (m := Sem) is ((none, ()) : Option Bool × Unit) fun i __s => do
        let a ← part 5 (nums x).toArray (i * 1)
        let b ← part 5 (nums y).toArray (i * 1)
        let r ← Op.equalIn D 5 a b
        if (!r) = true then pure (ForInStep.done (some false, ())) else pure (ForInStep.yield (none, ()))).run Tryd.prog w =
      .ok (if is.all (fun i => x.getD i 0 == y.getD i 0) then (none, ()) else (some false, ())) w := by
  intro is
  induction is with
  | nil => intro _; rfl
  | cons i is ih =>
    intro h
    have hi := h i (by simp)
    have ih' := ih (fun j hj => h j (by simp [hj]))
    rw [List.forIn_cons]
    simp only [Sem.run_bind, Nat.mul_one, part_u8 hi.1, part_u8 hi.2, hD, Result.andThen_ok]
    by_cases e : x.getD i 0 = y.getD i 0
    · have eb : (x.getD i 0 == y.getD i 0) = true := beq_iff_eq.2 e
      rw [eb]
      simp only [Bool.not_true, Bool.false_eq_true, if_false, Sem.run_pure, Result.andThen_ok]
      have := ih'
      simp only [Nat.mul_one] at this
      rw [this, List.all_cons, eb, Bool.true_and]
    · have eb : (x.getD i 0 == y.getD i 0) = false := beq_eq_false_iff_ne.2 e
      rw [eb]
      simp only [Bool.not_false, if_true, Sem.run_pure, Result.andThen_ok]
      have e2 : ((i :: is).all fun i => x.getD i 0 == y.getD i 0) = false := by rw [List.all_cons, eb]; rfl
      rw [e2]
      rfl
theorem all_range {x y : List Int} (hx : x.length = 32) (hy : y.length = 32) : ((List.range' 0 32).all fun i => x.getD i 0 == y.getD i 0) = decide (x = y) := by
  rw [Bool.eq_iff_iff]
  simp only [List.all_eq_true, decide_eq_true_eq, List.mem_range'_1, beq_iff_eq]
  constructor
  · intro h
    apply List.ext_getElem (by omega)
    intro i h1 h2
    have := h i (by omega)
    simpa [h1, h2] using this
  · intro h i _
    rw [h]
theorem equal32 (D : Nat) (hD : ∀ (a b : Int) (w : World), (Op.equalIn D 5 (.int .u8 a) (.int .u8 b)).run Tryd.prog w = .ok (a == b) w) (x y : List Int) (hx : x.length = 32) (hy : y.length = 32) (w : World) :
    (Op.equalIn (D + 1) 39 (.agg (nums x).toArray) (.agg (nums y).toArray)).run Tryd.prog w = .ok (decide (x = y)) w := by
  simp only [Op.equalIn, Sem.run_bind, run_underlying und32, Result.andThen_ok, sz_u8]
  have h := loop32 D hD x y w (List.range' 0 32) (fun i hi => by simp at hi; omega)
  rw [Std.Legacy.Range.forIn_eq_forIn_range']
  have e : (List.range' ([:32] : Std.Legacy.Range).start ([:32] : Std.Legacy.Range).size ([:32] : Std.Legacy.Range).step) = List.range' 0 32 := rfl
  rw [e, h, all_range hx hy]
  by_cases hxy : x = y
  · simp [hxy]
  · simp [hxy]
theorem eql32 (x y : List Int) (hx : x.length = 32) (hy : y.length = 32) (w : World) : (binOp .eql 39 (.agg (nums x).toArray) (.agg (nums y).toArray)).run Tryd.prog w = .ok (.bool (decide (x = y))) w := by
  have h := equal32 9999 (fun a b w => run_equalIn_int w 9998 5 .u8 .u8 a b Tryd.underlying5) x y hx hy w
  rw [run_eql_struct w, h]
  rfl
theorem neq32 (x y : List Int) (hx : x.length = 32) (hy : y.length = 32) (w : World) : (binOp .neq 39 (.agg (nums x).toArray) (.agg (nums y).toArray)).run Tryd.prog w = .ok (.bool (!decide (x = y))) w := by
  have h := equal32 9999 (fun a b w => run_equalIn_int w 9998 5 .u8 .u8 a b Tryd.underlying5) x y hx hy w
  rw [run_neq_struct w, h]
  rfl
end Go.Proofs.YtjpgepodkeccmaaDoor.Sh
