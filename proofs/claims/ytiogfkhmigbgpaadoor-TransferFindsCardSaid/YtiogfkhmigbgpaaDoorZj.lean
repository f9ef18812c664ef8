/-
  The walk of Tree. (Made by tools/gen_tree.py.)
  Equality of two hashes.
  What came in: texts, digests, rows of digests; the two tables as they are laid.
-/
import Derived.Test.YtiogfkhmigbgpaaDoorZi
import Derived.Deep.DeepCutAuto
import Derived.Test.YtiogfkhmigbgpaaDoorTie
import Derived.Test.YtiogfkhmigbgpaaDoorCards
import Derived.Deep.Slices
import Derived.ChangeSlices
import Derived.ChangeOld
import Derived.ProofKit
import Derived.LaidMore
import Derived.OpenShut
import Derived.Stop.Joined
namespace Go.Proofs.YtiogfkhmigbgpaaDoor
set_option maxRecDepth 20000
open Go.RowKit
theorem row_size {d : List Int} (h : Dig d) : (nums d).toArray.size = 32 := by simp [nums_len, h.1]
theorem zs32_size : (nums (zs 32)).toArray.size = 32 := rfl
theorem txt_dig {w : World} {g : Nat} {d : List Int} (h : Whole w g 32 (nums d).toArray) (hd : Dig d) : Txt w (fun _ => True) (some ⟨g, 0, none⟩) 32 32 d := by
  have t := txt_of_whole (fun _ => True) trivial h hd.2 32 32 (by rw [hd.1]; omega) (by omega)
  rwa [List.take_of_length_le (by rw [hd.1]; omega)] at t
end Go.Proofs.YtiogfkhmigbgpaaDoor
namespace Go.Proofs.YtiogfkhmigbgpaaDoor
set_option maxRecDepth 20000
open Go.RowKit

theorem part_u8 {x : List Int} {i : Nat} (h : i < x.length) (w : World) : (part 5 (nums x).toArray i).run Tryd.prog w = .ok (.int .u8 (x.getD i 0)) w := by
  have ha : (isAgg 5).run Tryd.prog w = .ok false w := by
    unfold isAgg
    rw [Sem.run_bind, run_underlying Tryd.underlying5 w]
    rfl
  unfold part
  rw [Sem.run_bind, ha]
  simp only [Result.andThen_ok, Bool.false_eq_true, if_false, List.getElem?_toArray, nums_get x i h]
  rfl

theorem loop32 (D : Nat) (hD : ∀ (a b : Int) (w : World), (Op.equalIn D 5 (.int .u8 a) (.int .u8 b)).run Tryd.prog w = .ok (a == b) w) (x y : List Int) (w : World) :
    ∀ is : List Nat, (∀ i ∈ is, i < x.length ∧ i < y.length) →
    (forIn (m := Sem) is ((none, ()) : Option Bool × Unit) fun i __s => do
        let a ← part 5 (nums x).toArray (i * 1)
        let b ← part 5 (nums y).toArray (i * 1)
        let r ← Op.equalIn D 5 a b
        if (!r) = true then pure (ForInStep.done (some false, ())) else pure (ForInStep.yield (none, ()))).run Tryd.prog w =
      .ok (if is.all (fun i => x.getD i 0 == y.getD i 0) then (none, ()) else (some false, ())) w := by
  intro is
  induction is with
  | nil => intro _; rfl
  | cons i is ih =>
    intro h
    have hi := h i (by simp)
    have ih' := ih (fun j hj => h j (by simp [hj]))
    rw [List.forIn_cons]
    simp only [Sem.run_bind, Nat.mul_one, part_u8 hi.1, part_u8 hi.2, hD, Result.andThen_ok]
    by_cases e : x.getD i 0 = y.getD i 0
    · have eb : (x.getD i 0 == y.getD i 0) = true := beq_iff_eq.2 e
      rw [eb]
      simp only [Bool.not_true, Bool.false_eq_true, if_false, Sem.run_pure, Result.andThen_ok]
      have := ih'
      simp only [Nat.mul_one] at this
      rw [this, List.all_cons, eb, Bool.true_and]
    · have eb : (x.getD i 0 == y.getD i 0) = false := beq_eq_false_iff_ne.2 e
      rw [eb]
      simp only [Bool.not_false, if_true, Sem.run_pure, Result.andThen_ok]
      have e2 : ((i :: is).all fun i => x.getD i 0 == y.getD i 0) = false := by rw [List.all_cons, eb]; rfl
      rw [e2]
      rfl
theorem all_range {x y : List Int} (hx : x.length = 32) (hy : y.length = 32) : ((List.range' 0 32).all fun i => x.getD i 0 == y.getD i 0) = decide (x = y) := by
  rw [Bool.eq_iff_iff]
  simp only [List.all_eq_true, decide_eq_true_eq, List.mem_range'_1, beq_iff_eq]
  constructor
  · intro h
    apply List.ext_getElem (by omega)
    intro i h1 h2
    have := h i (by omega)
    simpa [h1, h2] using this
  · intro h i _
    rw [h]
theorem equal32 (D : Nat) (hD : ∀ (a b : Int) (w : World), (Op.equalIn D 5 (.int .u8 a) (.int .u8 b)).run Tryd.prog w = .ok (a == b) w) (x y : List Int) (hx : x.length = 32) (hy : y.length = 32) (w : World) :
    (Op.equalIn (D + 1) 32 (.agg (nums x).toArray) (.agg (nums y).toArray)).run Tryd.prog w = .ok (decide (x = y)) w := by
  simp only [Op.equalIn, Sem.run_bind, run_underlying und32, Result.andThen_ok, sz_u8]
  have h := loop32 D hD x y w (List.range' 0 32) (fun i hi => by simp at hi; omega)
  rw [Std.Legacy.Range.forIn_eq_forIn_range']
  have e : (List.range' ([:32] : Std.Legacy.Range).start ([:32] : Std.Legacy.Range).size ([:32] : Std.Legacy.Range).step) = List.range' 0 32 := rfl
  rw [e, h, all_range hx hy]
  by_cases hxy : x = y
  · simp [hxy]
  · simp [hxy]
theorem eql32 (x y : List Int) (hx : x.length = 32) (hy : y.length = 32) (w : World) : (binOp .eql 32 (.agg (nums x).toArray) (.agg (nums y).toArray)).run Tryd.prog w = .ok (.bool (decide (x = y))) w := by
  have h := equal32 9999 (fun a b w => run_equalIn_int w 9998 5 .u8 .u8 a b Tryd.underlying5) x y hx hy w
  rw [run_eql_struct w, h]
  rfl
theorem neq32 (x y : List Int) (hx : x.length = 32) (hy : y.length = 32) (w : World) : (binOp .neq 32 (.agg (nums x).toArray) (.agg (nums y).toArray)).run Tryd.prog w = .ok (.bool (!decide (x = y))) w := by
  have h := equal32 9999 (fun a b w => run_equalIn_int w 9998 5 .u8 .u8 a b Tryd.underlying5) x y hx hy w
  rw [run_neq_struct w, h]
  rfl
end Go.Proofs.YtiogfkhmigbgpaaDoor
namespace Go.Proofs.YtiogfkhmigbgpaaDoor
set_option maxRecDepth 20000
open Go.ChangeShapes Go.WideShapes Go.RowKit Go.Deep

theorem u8_in {n : Int} (h : (Lit.int .u8 n).wf = true) : 0 ≤ n ∧ n < 256 := by
  simp [Lit.wf, IntKind.min, IntKind.max, IntKind.signed, IntKind.bits] at h
  omega
theorem u32_in {n : Int} (h : (Lit.int .u32 n).wf = true) : 0 ≤ n ∧ n < 4294967296 := by
  simp [Lit.wf, IntKind.min, IntKind.max, IntKind.signed, IntKind.bits] at h
  omega
theorem i64_in {n : Int} (h : (Lit.int .i64 n).wf = true) : -9223372036854775808 ≤ n ∧ n ≤ 9223372036854775807 := by
  simp [Lit.wf, IntKind.min, IntKind.max, IntKind.signed, IntKind.bits] at h
  omega
/-- What came in: nil, or a row of numbers. -/
def Row (k : IntKind) (w : World) (a : Option Addr) (len cap : Nat) (zs : List Int) : Prop :=
  (a = none ∧ len = 0 ∧ cap = 0 ∧ zs = []) ∨
  ∃ x, a = some x ∧ len ≤ cap ∧ cap ≤ maxLen ∧ zs.length = cap ∧ (∀ i, i < zs.length → w.cell? (x.add i) = some (.int k (zs.getD i 0))) ∧ ∀ n ∈ zs, (Lit.int k n).wf = true
theorem row_txt {w : World} {a : Option Addr} {len cap : Nat} {zs : List Int} (h : Row .u8 w a len cap zs) : ∃ l, Txt w (· < w.heap.size) a len cap l := by
  rcases h with ⟨_, h0, h1, _⟩ | ⟨x, rfl, hle, _, hz, hc, hw⟩
  · subst h0 h1
    exact ⟨[], Txt.nil _ _ _ _⟩
  · have hby : Byt (zs.take len) := by
      intro y hy
      exact u8_in (hw y (List.mem_of_mem_take hy))
    by_cases h0 : len = 0
    · subst h0
      exact ⟨[], rfl, by omega, byt_nil, Or.inl rfl⟩
    · obtain ⟨b, off, rfl, hc'⟩ := ints_at hc (by omega)
      refine ⟨zs.take len, by simp; omega, hle, hby, Or.inr ⟨b, off, rfl, World.block_lt_of_cell? w _ (hc' 0 (by omega)), World.block_lt_of_cell? w _ (hc' 0 (by omega)), fun k hk => ?_⟩⟩
      rw [hc' k (by omega)]
      have hk' : k < zs.length := by omega
      simp [hk', hk]
/-- Numbers that came in. -/
def Nums (w : World) (a : Option Addr) (n : Nat) (l : List Int) : Prop :=
  l.length = n ∧ (∀ x ∈ l, -9223372036854775808 ≤ x ∧ x ≤ 9223372036854775807) ∧ (l = [] ∨ ∃ b off, a = some ⟨b, off, none⟩ ∧ b < w.heap.size ∧ ∀ k, k < n → w.cell? ⟨b, off + k, none⟩ = some (.int .i64 (l.getD k 0)))
theorem row_nums {w : World} {a : Option Addr} {len cap : Nat} {zs : List Int} (h : Row .i64 w a len cap zs) : ∃ l, Nums w a len l := by
  rcases h with ⟨_, h0, h1, _⟩ | ⟨x, rfl, hle, _, hz, hc, hw⟩
  · subst h0 h1
    exact ⟨[], rfl, (fun x hx => by cases hx), Or.inl rfl⟩
  · by_cases h0 : len = 0
    · subst h0
      exact ⟨[], rfl, (fun x hx => by cases hx), Or.inl rfl⟩
    · obtain ⟨b, off, rfl, hc'⟩ := ints_at hc (by omega)
      refine ⟨zs.take len, by simp; omega, fun y hy => i64_in (hw y (List.mem_of_mem_take hy)), Or.inr ⟨b, off, rfl, World.block_lt_of_cell? w _ (hc' 0 (by omega)), fun k hk => ?_⟩⟩
      rw [hc' k (by omega)]
      have hk' : k < zs.length := by omega
      simp [hk', hk]
section
variable {H : Type} {enc : TypeId × Value → H} {w : World}
theorem some_of {xs : List (DataW H × List MemPlace)} {n i : Nat} (h : xs.length = n) (hi : i < n) : ∃ y, xs[i]? = some y := ⟨xs[i]'(by omega), List.getElem?_eq_getElem (by omega)⟩
/-- Thirty-two bytes that came in. -/
theorem open_h32 {m : Nat} {r : List Value} {x : DataW H × List MemPlace} (hr : r.length = 32) (h : DataW.trod enc Tryd.prog w 0 (fun _ => true) true m 32 r = some x) : ∃ l : List Int, Dig l ∧ r = nums l := by
  obtain ⟨xs, m', _, _, _, hxl, hi⟩ := DataW.trod_array und32 h
  have hc : Tryd.prog.cellsOf 5 = 1 := by kernel_rfl
  obtain ⟨f, hf⟩ := choose_lt (α := Int) (n := 32) (p := fun i v => r[i]? = some (.int .u8 v) ∧ 0 ≤ v ∧ v < 256) (fun i hlt => by
    have h1 := hi i hlt
    obtain ⟨y, hy⟩ := some_of hxl hlt
    rw [hy, hc, Nat.mul_one] at h1
    obtain ⟨n, hn, _, hw⟩ := DataW.trod_int Tryd.underlying5 h1
    refine ⟨n, ?_, u8_in hw⟩
    rw [List.drop_eq_getElem_cons (by omega)] at hn
    simp only [List.take_succ_cons, List.take_zero, List.cons.injEq, and_true] at hn
    rw [List.getElem?_eq_getElem (by omega), hn])
  refine ⟨(List.range 32).map f, ⟨by simp, ?_⟩, ?_⟩
  · intro y hy
    obtain ⟨i, hi', rfl⟩ := List.mem_map.1 hy
    exact (hf i (List.mem_range.1 hi')).2
  · apply List.ext_getElem?
    intro i
    by_cases h32 : i < 32
    · rw [(hf i h32).1, nums_get _ i (by simpa using h32)]
      simp [h32]
    · rw [List.getElem?_eq_none (by omega), List.getElem?_eq_none (by rw [nums_len]; simp; omega)]
theorem open_hash {base : Nat} {r : Reach} {v : Value} {d : DataW H} {ps : List MemPlace} (hv : Value.okWide Tryd.prog w r base 32 v) (h : DataW.Trod enc Tryd.prog w 0 (fun _ => true) true 32 v d ps) : ∃ l : List Int, Dig l ∧ v = .agg (nums l).toArray := by
  simp only [Value.okWide, und32] at hv
  obtain ⟨cs, rfl, h2, _⟩ := hv
  obtain ⟨fuel, hf⟩ := h
  have h32 : cs.size = 32 := by rw [h2]; kernel_rfl
  obtain ⟨l, hl, e⟩ := open_h32 (r := cs.toList) (by simpa using h32) (by simpa [Value.cells] using hf)
  refine ⟨l, hl, ?_⟩
  rw [← e]
theorem open_txt {m : Nat} {v : Value} {x : DataW H × List MemPlace} (h : DataW.trod enc Tryd.prog w 0 (fun _ => true) true m 35 [v] = some x) : ∃ a n c l, v = .slice a n c ∧ Txt w (· < w.heap.size) a n c l := by
  rcases open_ints Tryd.underlying35 Tryd.underlying5 (by kernel_rfl) h with ⟨hcs, _⟩ | ⟨x, l, c, zs, hcs, _, hl, hm, hz, _, hcell, hwz⟩
  · injection hcs with hcs _
    exact ⟨none, 0, 0, [], hcs, Txt.nil _ _ _ _⟩
  · injection hcs with hcs _
    obtain ⟨l', ht⟩ := row_txt (w := w) (a := some x) (len := l) (cap := c) (zs := zs) (.inr ⟨_, rfl, hl, hm, by simpa using hz, hcell, hwz⟩)
    exact ⟨_, _, _, l', hcs, ht⟩
/-- A row of digests that came in. -/
theorem open_digs {m : Nat} {a : Option Addr} {len cap : Nat} {x : DataW H × List MemPlace} (h : DataW.trod enc Tryd.prog w 0 (fun _ => true) true m 31 [.slice a len cap] = some x) :
    ∃ ds, len ≤ cap ∧ Digs w (· < w.heap.size) a len ds := by
  have k32 : Tryd.prog.cellsOf 32 = 32 := by kernel_rfl
  rcases open_slice Tryd.underlying31 h with ⟨hcs, _⟩ | ⟨ad, l, c, m', n, D, Pl, hcs, _, hl, _, hm, _, hi⟩
  · injection hcs with hcs _
    injection hcs with e1 e2 e3
    subst e1 e2 e3
    exact ⟨[], Nat.le_refl _, Digs.nil _ _ _⟩
  · injection hcs with hcs _
    injection hcs with e1 e2 e3
    subst e1 e2 e3
    have hm' : m' = cap := by simpa using hm
    subst hm'
    rw [k32] at hi
    by_cases h0 : len = 0
    · subst h0
      exact ⟨[], Nat.zero_le _, Digs.nil _ _ _⟩
    · obtain ⟨b, off, spot⟩ := ad
      have hspot : spot = none := by
        obtain ⟨cs', h1, h2⟩ := hi 0 (by omega)
        obtain ⟨_, hlen, hat⟩ := World.cells?_some h1
        obtain ⟨p, hok, hcs⟩ := open_h32 hlen h2
        have := hat 0 (by omega)
        rw [hcs, nums_get _ _ (by rw [hok.1]; omega)] at this
        simpa [Addr.add] using World.cell?_spot this
      subst hspot
      obtain ⟨f, hf⟩ := choose_lt (α := List Int) (n := len) (p := fun i p => Dig p ∧ w.rangeAt b (off + i * 32) (nums p)) (fun i hlt => by
        obtain ⟨cs', h1, h2⟩ := hi i (by omega)
        obtain ⟨_, hlen, hat⟩ := World.cells?_some h1
        obtain ⟨p, hok, rfl⟩ := open_h32 hlen h2
        refine ⟨p, hok, fun j u hu => ?_⟩
        have hj : j < 32 := by
          have := (List.getElem?_eq_some_iff.1 hu).1
          rw [nums_len, hok.1] at this; exact this
        have := hat j hj
        rw [add_add, add_plain] at this
        rw [← hu, ← this, Nat.add_assoc])
      refine ⟨(List.range len).map f, hl, by simp, ?_, Or.inr ⟨b, off, rfl, ?_, ?_, ?_⟩⟩
      · intro p hp
        obtain ⟨i, hi', rfl⟩ := List.mem_map.1 hp
        exact (hf i (List.mem_range.1 hi')).1
      · have h := hf 0 (by omega)
        exact World.block_lt_of_cell? w _ (h.2 0 _ (nums_get _ 0 (by rw [h.1.1]; omega)))
      · have h := hf 0 (by omega)
        exact World.block_lt_of_cell? w _ (h.2 0 _ (nums_get _ 0 (by rw [h.1.1]; omega)))
      · intro i hlt
        have := (hf i hlt).2
        simpa [hlt] using this
end
/-- The data that the rows list. -/
def laid2 : List (String × DataW Unit) := Rows.transferPicksRow.laid
def nameAt (i : Nat) : String := ((laid2[i]?).map (·.1)).getD ""
theorem globalH : Tryd.prog.globalNamed (nameAt 0) = some 0 := by kernel_rfl
theorem globalK : Tryd.prog.globalNamed (nameAt 1) = some 1 := by kernel_rfl
theorem globalHt : (Tryd.prog.globals[0]?).map (·.type) = some 70 := by kernel_rfl
theorem globalKt : (Tryd.prog.globals[1]?).map (·.type) = some 85 := by kernel_rfl
theorem datumH : (Rows.laid_shipwright_sha_squareRoots : DataW Unit) = .agg (Sm.rH.map fun x => .lit (.int .u32 (num x))) := by kernel_rfl
theorem datumK : (Rows.laid_shipwright_sha_cubeRoots : DataW Unit) = .agg (Sm.rK.map fun x => .lit (.int .u32 (num x))) := by kernel_rfl
theorem table {H : Type} {enc : TypeId × Value → H} {w : World} {T : TypeId} {n fuel : Nat} {cs : List Value} {l : List (BitVec 32)} {q : List MemPlace} (hu : Tryd.prog.underlying T = some (.array n 69)) (hn : Tryd.prog.cellsOf T = n) (hl : l.length = n) {b : Bool}
    (h : DataW.trod enc Tryd.prog w 0 (fun _ => true) b fuel T cs = some (.agg (l.map fun x => .lit (.int .u32 (num x))), q)) : cs = wds l := by
  obtain ⟨xs, m', _, hx, hlen, hxl, hi⟩ := DataW.trod_array hu h
  have hc : Tryd.prog.cellsOf 69 = 1 := by kernel_rfl
  simp only [Prod.mk.injEq, DataW.agg.injEq] at hx
  rw [hn] at hlen
  apply List.ext_getElem?
  intro i
  by_cases hlt : i < n
  · have h1 := hi i hlt
    obtain ⟨y, hy⟩ := some_of hxl hlt
    rw [hy, hc, Nat.mul_one] at h1
    obtain ⟨k, hk, hyk, _⟩ := DataW.trod_int Tryd.underlying69 h1
    have hil : i < cs.length := by omega
    rw [List.drop_eq_getElem_cons hil] at hk
    simp only [List.take_succ_cons, List.take_zero, List.cons.injEq, and_true] at hk
    rw [List.getElem?_eq_getElem hil, hk, wds_get _ _ (by omega)]
    have h2 : (l.map fun x => (DataW.lit (Lit.int .u32 (num x)) : DataW H))[i]? = (xs.map (·.1))[i]? := by rw [hx.1]
    rw [List.getElem?_map, List.getElem?_map, hy, hyk] at h2
    have hli : i < l.length := by omega
    rw [List.getElem?_eq_getElem hli] at h2
    simp at h2
    simp [hli, h2]
  · rw [List.getElem?_eq_none (by omega), List.getElem?_eq_none (by rw [wds_len]; omega)]
theorem var_block {w : World} {n : String} {g : Nat} {cs : Array Value} (hg : Tryd.prog.globalNamed n = some g) (h : w.var? Tryd.prog n = some cs) : ∃ t fr, w.heap[g]? = some (.cells cs t fr) := by
  unfold World.var? at h
  rw [hg] at h
  simp only [Option.bind_some] at h
  split at h
  · rename_i c t fr hh
    injection h with h
    subst h
    exact ⟨_, _, hh⟩
  · cases h
theorem roots_of {w : World} (h : laidMetH Tryd.prog laid2 w) : Roots w := by
  rw [MakeChecks.laidMetH_plain _ _ _ (by kernel_rfl)] at h
  obtain ⟨ps, ⟨g0, t0, cs0, f0, p0, q0, hg0, ht0, hv0, hd0, ⟨g1, t1, cs1, f1, p1, q1, hg1, ht1, hv1, hd1, _, _⟩, _⟩, _, _⟩ := h
  obtain rfl := Option.some.inj (globalH.symm.trans hg0)
  obtain rfl := Option.some.inj (globalK.symm.trans hg1)
  obtain rfl := Option.some.inj (globalHt.symm.trans ht0)
  obtain rfl := Option.some.inj (globalKt.symm.trans ht1)
  rw [datumH] at hd0
  rw [datumK] at hd1
  have e0 := table (l := Sm.rH) undW8 (by kernel_rfl) rfl hd0
  have e1 := table (l := Sm.rK) undW64 (by kernel_rfl) rfl hd1
  obtain ⟨c0⟩ := cs0
  obtain ⟨c1⟩ := cs1
  simp only at e0 e1
  subst e0 e1
  exact ⟨var_block hg0 hv0, var_block hg1 hv1⟩
end Go.Proofs.YtiogfkhmigbgpaaDoor
