/-
  The document's roots: Mul64, Add64, above, root.
  The document's prime, primes, roots.
  The document's roots.
  The document's turn and words.
-/
import Derived.Test.YtiogfkhmigbgpaaDoorZh
import Derived.Laws.Externs
import Derived.Laws.Bits64
import Derived.Test.YtiogfkhmigbgpaaDoorZj
import Derived.Deep.DeepCutAuto
set_option linter.unusedSimpArgs false
namespace Go.Proofs.YtiogfkhmigbgpaaDoor
set_option maxRecDepth 20000
open Go.RowKit
namespace Rf
def wr (x : Int) : Int := x % 18446744073709551616
def lw (x : Int) : Int := bits .and .u64 x 4294967295
def up (x : Int) : Int := x / 4294967296
def mid (x y : Int) : Int := wr (wr (up x * lw y) + up (wr (lw x * lw y)))
def hi (x y : Int) : Int := wr (wr (wr (up x * up y) + up (mid x y)) + up (wr (lw (mid x y) + wr (lw x * up y))))
def lo (x y : Int) : Int := wr (x * y)
def above2 (x n : Int) : Bool := decide (hi x x > n) || (decide (hi x x = n) && decide (lo x x > 0))
def top (x : Int) : Int := wr (hi (hi x x) x + (lo (hi x x) x + hi (lo x x) x) / 18446744073709551616)
def sum (x : Int) : Int := (lo (hi x x) x + hi (lo x x) x) % 18446744073709551616
def above3 (x n : Int) : Bool := decide (top x > 0) || decide (sum x > wr (n * 4294967296)) || (decide (sum x = wr (n * 4294967296)) && decide (lo (lo x x) x > 0))
def above (p : Nat) (x n : Int) : Bool := if p = 2 then above2 x n else above3 x n
def rootTo (p : Nat) (n : Int) : Nat → Int
  | 0 => 0
  | k + 1 => let x := rootTo p n k; let y := wr (x + wr (2 ^ (39 - k))); if above p y n then x else y
def rootW (p : Nat) (n : Nat) : BitVec 32 := BitVec.ofInt 32 (rootTo p n 40)
def isPrime (n : Nat) : Bool := decide (1 < n) && (List.range n).all fun d => decide (d < 2) || decide (n < d * d) || decide (n % d ≠ 0)
def primes : List Nat := (List.range 312).filter isPrime
end Rf
theorem roots3 : Rf.primes.map (Rf.rootW 3) = Sm.rK := by decide +kernel
theorem roots2 : (Rf.primes.take 8).map (Rf.rootW 2) = Sm.rH := by decide +kernel
theorem u64w (x : Int) : IntKind.u64.wrap x = Rf.wr x := by rw [IntKind.wrap_u64]; rfl
def W64 (x : Int) : Prop := 0 ≤ x ∧ x ≤ 18446744073709551615
theorem w64_wr (x : Int) : W64 (Rf.wr x) := by unfold W64 Rf.wr; omega
theorem w64_hi (x y : Int) : W64 (Rf.hi x y) := w64_wr _
theorem w64_lo (x y : Int) : W64 (Rf.lo x y) := w64_wr _
theorem tup_u64 {a b c d : Int} (h : a = c) (h' : b = d) : Ending.returned (.tuple #[.int .u64 a, .int .u64 b]) = .returned (.tuple #[.int .u64 c, .int .u64 d]) := by rw [h, h']
theorem mul64_any (x y : Int) (h1 : W64 x) (h2 : W64 y) (w : World) : Calls Tryd.prog 64 #[.int .u64 x, .int .u64 y] w fun e w' => e = .returned (.tuple #[.int .u64 (Rf.hi x y), .int .u64 (Rf.lo x y)]) ∧ w = w' := by
  obtain ⟨a1, a2⟩ := h1
  obtain ⟨b1, b2⟩ := h2
  go_enter Tryd.func64, Tryd.ntmps64
  go_wp2
  go_ret2
  refine ⟨tup_u64 ?_ ?_, rfl⟩
  · simp only [u64w]; rfl
  · simp only [u64w]; rfl
theorem add64 (x y : Int) (hx : 0 ≤ x) (hy : 0 ≤ y) (w : World) : (callFunc 65 #[.int .u64 x, .int .u64 y, .int .u64 0]).run Tryd.prog w =
    .ok (.value (.tuple #[.int .u64 ((x + y) % 18446744073709551616), .int .u64 ((x + y) / 18446744073709551616)])) w := by
  rw [run_callFunc_extern Tryd.func65 (by kernel_rfl) (by kernel_rfl) (by kernel_rfl) (e := add64Entry) (by kernel_rfl), run_add64 x y 0 hx hy (Int.le_refl 0) (by decide)]
  simp [Result.andThen]
theorem ret_bool {a b : Bool} (h : a = b) : Ending.returned (.bool a) = .returned (.bool b) := by rw [h]
theorem above2_any (x n : Int) (h1 : W64 x) (h2 : W64 n) (w : World) : Calls Tryd.prog 62 #[.int .u64 x, .int .i64 2, .int .u64 n] w fun e w' => e = .returned (.bool (Rf.above2 x n)) ∧ w = w' := by
  obtain ⟨r, hr⟩ : ∃ r, Rf.above2 x n = r := ⟨_, rfl⟩
  rw [hr]
  unfold Rf.above2 at hr
  go_enter Tryd.func62, Tryd.ntmps62
  go_wp2_with fail
  refine (mul64_any x x h1 h1 _).mono ?_
  rintro e w' ⟨rfl, rfl⟩
  --
  have h3 := w64_hi x x
  have h4 := w64_lo x x
  generalize Rf.hi x x = hi at *
  generalize Rf.lo x x = lo at *
  obtain ⟨a1, a2⟩ := h2
  obtain ⟨b1, b2⟩ := h3
  obtain ⟨c1, c2⟩ := h4
  have HR := Lib.hid hr
  clear hr
  by_cases e1 : n < hi
  · go_wp2
    go_ret
    exact ⟨ret_bool (by rw [← HR.out]; simp [e1]), rfl⟩
  by_cases e2 : hi = n
  · subst e2
    by_cases e3 : 0 < lo
    · go_wp2
      go_ret
      exact ⟨ret_bool (by rw [← HR.out]; simp [e3]), rfl⟩
    · go_wp2
      go_ret
      exact ⟨ret_bool (by rw [← HR.out]; simp [e3]), rfl⟩
  · go_wp2
    go_ret
    exact ⟨ret_bool (by rw [← HR.out]; simp [e2]), rfl⟩
theorem above3_any (x n : Int) (h1 : W64 x) (h2 : W64 n) (w : World) : Calls Tryd.prog 62 #[.int .u64 x, .int .i64 3, .int .u64 n] w fun e w' => e = .returned (.bool (Rf.above3 x n)) ∧ w = w' := by
  obtain ⟨r, hr⟩ : ∃ r, Rf.above3 x n = r := ⟨_, rfl⟩
  rw [hr]
  unfold Rf.above3 Rf.top Rf.sum at hr
  go_enter Tryd.func62, Tryd.ntmps62
  go_wp2_with fail
  refine (mul64_any x x h1 h1 _).mono ?_
  rintro e w' ⟨rfl, rfl⟩
  -- Rf.top Rf.sum
  have h3 := w64_hi x x
  have h4 := w64_lo x x
  generalize Rf.hi x x = hi at *
  generalize Rf.lo x x = lo at *
  go_wp2_with fail
  refine (mul64_any hi x h3 h1 _).mono ?_
  rintro e w' ⟨rfl, rfl⟩
  go_wp2_with fail
  refine (mul64_any lo x h4 h1 _).mono ?_
  rintro e w' ⟨rfl, rfl⟩
  have h5 := w64_hi hi x
  have h6 := w64_lo hi x
  have h7 := w64_hi lo x
  have h8 := w64_lo lo x
  generalize Rf.hi hi x = hh at *
  generalize Rf.lo hi x = hl at *
  generalize Rf.hi lo x = lh at *
  generalize Rf.lo lo x = ll at *
  have ha := add64 hl lh h6.1 h7.1
  obtain ⟨sm, hs⟩ : ∃ sm, (hl + lh) % 18446744073709551616 = sm := ⟨_, rfl⟩
  obtain ⟨cy, hc⟩ : ∃ cy, (hl + lh) / 18446744073709551616 = cy := ⟨_, rfl⟩
  have s1 : 0 ≤ sm := by omega
  have s2 : sm ≤ 18446744073709551615 := by omega
  obtain ⟨tp, ht⟩ : ∃ tp, Rf.wr (hh + cy) = tp := ⟨_, rfl⟩
  have t1 : 0 ≤ tp := ht ▸ (w64_wr _).1
  obtain ⟨wt, hw⟩ : ∃ wt, Rf.wr (n * 4294967296) = wt := ⟨_, rfl⟩
  simp only [hs, hc, ht, hw] at hr ha
  rw [← u64w] at ht hw
  have a1 := h2.1
  have a2 := h2.2
  clear hs hc h1 h2 h3 h4 h5 h6 h7
  obtain ⟨d1, d2⟩ := h8
  have HR := Lib.hid hr
  clear hr
  by_cases e1 : 0 < tp
  · go_wp2
    go_ret
    exact ⟨ret_bool (by rw [← HR.out]; simp [e1]), rfl⟩
  by_cases e2 : wt < sm
  · go_wp2
    go_ret
    exact ⟨ret_bool (by rw [← HR.out]; simp [e2]), rfl⟩
  by_cases e3 : sm = wt
  · subst e3
    by_cases e4 : 0 < ll
    · go_wp2
      go_ret
      exact ⟨ret_bool (by rw [← HR.out]; simp [e4]), rfl⟩
    · go_wp2
      go_ret
      exact ⟨ret_bool (by rw [← HR.out]; simp [e1, e4]), rfl⟩
  · go_wp2
    go_ret
    exact ⟨ret_bool (by rw [← HR.out]; simp [e1, e2, e3]), rfl⟩
theorem above_any (p : Nat) (hp : p = 2 ∨ p = 3) (x n : Int) (h1 : W64 x) (h2 : W64 n) (w : World) : Calls Tryd.prog 62 #[.int .u64 x, .int .i64 (p : Int), .int .u64 n] w fun e w' => e = .returned (.bool (Rf.above p x n)) ∧ w = w' := by
  rcases hp with rfl | rfl
  · exact above2_any x n h1 h2 w
  · exact above3_any x n h1 h2 w
theorem w64_root (p : Nat) (n : Int) (k : Nat) : W64 (Rf.rootTo p n k) := by
  induction k with
  | zero => exact ⟨by simp [Rf.rootTo], by simp [Rf.rootTo]⟩
  | succ k ih =>
    simp only [Rf.rootTo]
    split
    · exact ih
    · exact w64_wr _
theorem root_any (p : Nat) (hp : p = 2 ∨ p = 3) (n : Nat) (hn : n < 1000) (w : World) : Calls Tryd.prog 55 #[.int .u64 (n : Int), .int .i64 (p : Int)] w fun e w' => e = .returned (.int .u32 (num (Rf.rootW p n))) ∧ w = w' := by
  have HP := Lib.hid hp
  clear hp
  go_enter Tryd.func55, Tryd.ntmps55
  go_wp2
  go_loopw [5, 6] (fun x i wr => ∃ k : Nat, k ≤ 40 ∧ i = .int .i64 (39 - (k : Int)) ∧ x = .int .u64 (Rf.rootTo p n k) ∧ wr = w) (fun _ i _ => (intOf i + 1).toNat)
  case atStart => exact ⟨0, Nat.zero_le _, rfl, rfl, rfl⟩
  case round =>
    obtain ⟨k, hk, rfl, rfl, rfl⟩ := hrel
    have hx := w64_root p n k
    obtain ⟨x, hX⟩ : ∃ x, Rf.rootTo p n k = x := ⟨_, rfl⟩
    rw [hX] at hx
    rw [hX]
    have HX := Lib.hid hX
    clear hX
    by_cases hlt : k < 40
    · have hd : decide (0 ≤ 39 - (k : Int)) = true := by simp; omega
      go_wp2_with fail
      rw [u64w, u64w]
      obtain ⟨y, hy⟩ : ∃ y, Rf.wr (x + Rf.wr (2 ^ (39 - k))) = y := ⟨_, rfl⟩
      have hys : W64 y := hy ▸ w64_wr _
      have HN : Hid (Rf.rootTo p n (k + 1) = if Rf.above p y n then x else y) := Lib.hid (by simp only [Rf.rootTo]; rw [HX.out, hy])
      rw [hy]
      clear hy
      refine (above_any p HP.out y n hys ⟨by omega, by omega⟩ _).mono ?_
      rintro e w' ⟨rfl, rfl⟩
      cases hab : Rf.above p y n
      · have HA := Lib.hid hab
        clear hab
        go_wp2
        go_roundw
        case rel => exact ⟨k + 1, by omega, by go_num, by rw [HN.out, HA.out]; rfl, trivial⟩
        case measure => simp [intOf]; omega
      · have HA := Lib.hid hab
        clear hab
        go_wp2
        go_roundw
        case rel => exact ⟨k + 1, by omega, by go_num, by rw [HN.out, HA.out]; rfl, trivial⟩
        case measure => simp [intOf]; omega
    · have hd : decide (0 ≤ 39 - (k : Int)) = false := by simp; omega
      have hk4 : k = 40 := by omega
      have HR : Hid (x % 4294967296 = num (Rf.rootW p n)) := Lib.hid (by rw [← HX.out, hk4]; unfold Rf.rootW num; rw [BitVec.toNat_ofInt]; omega)
      clear hk4
      go_wp2
      go_ret
      exact ⟨ret_u32 (by rw [← HR.out]), rfl⟩
end Go.Proofs.YtiogfkhmigbgpaaDoor
set_option linter.unusedSimpArgs false
namespace Go.Proofs.YtiogfkhmigbgpaaDoor
set_option maxRecDepth 20000
open Go.RowKit
theorem prime_no {n d : Nat} (h2 : 2 ≤ d) (hdd : d * d ≤ n) (hm : n % d = 0) : Rf.isPrime n = false := by
  have hd : d < n := by
    have : d * 2 ≤ d * d := Nat.mul_le_mul_left d h2
    omega
  unfold Rf.isPrime
  rw [Bool.and_eq_false_iff]
  right
  rw [List.all_eq_false]
  exact ⟨d, List.mem_range.2 hd, by simp [hm]; omega⟩
theorem prime_yes {n d : Nat} (hdd : n < d * d) (h : ∀ j, 2 ≤ j → j < d → n % j ≠ 0) : Rf.isPrime n = decide (1 < n) := by
  unfold Rf.isPrime
  have : ((List.range n).all fun d => decide (d < 2) || decide (n < d * d) || decide (n % d ≠ 0)) = true := by
    rw [List.all_eq_true]
    intro j _
    by_cases h2 : j < 2
    · simp [h2]
    · by_cases hj : j < d
      · have := h j (by omega) hj
        simp [this]
      · have : d * d ≤ j * j := Nat.mul_le_mul (by omega) (by omega)
        have : n < j * j := by omega
        simp [this]
  rw [this, Bool.and_true]
theorem prime_any (n : Nat) (hn : n < 1000) (w : World) : Calls Tryd.prog 61 #[.int .u64 (n : Int)] w fun e w' => e = .returned (.bool (Rf.isPrime n)) ∧ w = w' := by
  go_enter Tryd.func61, Tryd.ntmps61
  go_wp2
  go_loopw [3] (fun v wr => ∃ d : Nat, 2 ≤ d ∧ d ≤ n + 2 ∧ v = .int .u64 (d : Int) ∧ Hid (∀ j, 2 ≤ j → j < d → n % j ≠ 0) ∧ wr = w) (fun v _ => n + 2 - (intOf v).toNat)
  case atStart => exact ⟨2, by omega, by omega, rfl, Lib.hid (by intro j h1 h2; omega), rfl⟩
  case round =>
    obtain ⟨d, hd2, hdn, rfl, HJ, rfl⟩ := hrel
    obtain ⟨q, hq⟩ : ∃ q, d * d = q := ⟨_, rfl⟩
    have hq1 : d * 2 ≤ q := hq ▸ Nat.mul_le_mul_left d hd2
    have hq2 : q ≤ 1002 * 1002 := hq ▸ Nat.mul_le_mul (by omega) (by omega)
    have e0 : (d : Int) * (d : Int) = (q : Int) := by rw [← hq]; simp
    have e1 : IntKind.u64.wrap ((d : Int) * (d : Int)) = (q : Int) := by rw [e0, IntKind.wrap_u64]; omega
    have HQ := Lib.hid hq
    clear hq e0
    by_cases hle : q ≤ n
    · obtain ⟨m, hm⟩ : ∃ m, n % d = m := ⟨_, rfl⟩
      have e2 : (n : Int).tmod (d : Int) = (m : Int) := by rw [← hm]; rfl
      have HM := Lib.hid hm
      clear hm
      by_cases h0 : m = 0
      · subst h0
        go_wp2
        go_ret
        exact ⟨ret_bool (prime_no hd2 (by rw [HQ.out]; exact hle) HM.out).symm, rfl⟩
      · go_wp2
        go_roundw
        case rel =>
          refine ⟨d + 1, by omega, by omega, by go_num, Lib.hid ?_, by trivial⟩
          intro j h1 h2
          by_cases hj : j = d
          · subst hj; rw [HM.out]; exact h0
          · exact HJ.out j h1 (by omega)
        case measure => simp [intOf]; omega
    · go_wp2
      go_ret
      refine ⟨ret_bool ?_, rfl⟩
      rw [prime_yes (d := d) (by rw [HQ.out]; omega) HJ.out]
      simp; omega
theorem row_form {w : World} {base e size n : Nat} {v : Value} {xs : List Value} (h : w.ownsRow base e size v n xs) : ∃ q cap, v = .slice q n cap := by
  rcases h.2 with ⟨rfl, h0⟩ | ⟨g', cap, _, rfl, _⟩
  · exact ⟨_, _, by rw [h0]⟩
  · exact ⟨_, _, rfl⟩
/-- append of one value of one cell, that lies in a new block. -/
theorem wpList_append_one {w : World} {ops : Array Oper} {rest : List Oper} {o : Oper} {a : Act} {Q : Exit → Act → World → Prop} (hgd : o.guard = none) (s x : Operand) (T e : TypeId) (z : Value) (by8 : Nat)
    (ho : o.op = .call { callee := .builtin .append, args := #[s, x], argTypes := #[T, T] }) (hT : Tryd.prog.underlying T = some (.slice e)) (hinfo : (Tryd.prog.info? e).map (fun i => (i.zero, i.size, i.bytes)) = some (some z, 1, by8)) (hzs : z.cells.size = 1) (h8 : by8 ≤ 8)
    (base : Nat) (v : Value) (n : Nat) (xs : List Value) (hs : a.eval s = v) (hown : w.ownsRow base e 1 v n xs)
    (g : Nat) (T' : TypeId) (u : Value) (hx : a.eval x = .slice (some ⟨g, 0, none⟩) 1 1) (hg : Whole w g T' #[u]) (h1 : u.oneCell' = true)
    (hn : n ≤ 1000000) (hbase : base ≤ w.heap.size)
    (h : ∀ v' w', w'.ownsRow base e 1 v' (n + 1) (xs ++ [u]) → w.grownBy w' v.ownBlock → wpList Tryd.prog ops Q rest (a.put o.dst v') w') : wpList Tryd.prog ops Q (o :: rest) a w := by
  obtain ⟨i0, hi0, hz0, hz1, hz2⟩ := info_parts hinfo
  refine wpList_plain hgd fun _ hK => ?_
  have hb : (n + 1) * by8 ≤ 140737488355328 := Nat.le_trans (Nat.mul_le_mul (show n + 1 ≤ 1000001 by omega) h8) (by decide)
  obtain ⟨v', w', hrun, h2, h3, _, h5⟩ := run_append_own_at (P := Tryd.prog) w base T o.type e i0 z 1 by8 hT hi0 hz0 hz1 hz2 hzs (by omega) v n xs hown ⟨g, 0, none⟩ 1 1 [u] (by simp) (fun j t hu => by rw [Addr.add_lit, Nat.zero_add, hg.cell, List.getElem?_toArray]; exact hu) (by intro t ht; simp at ht; rw [ht]; exact h1) (by unfold maxLen; omega) hb hbase
  unfold Oper.wp execOp
  simp only [ho, resolve, invoke, builtin, Sem.run_bind, Sem.run_pure, Result.andThen_ok, List.map_toArray, List.map_cons, List.map_nil, hs, hx, hrun]
  exact hK _ _ (h v' w' h2 h3)
theorem u64_info : (Tryd.prog.info? 24).map (fun i => (i.zero, i.size, i.bytes)) = some (some (.int .u64 0), 1, 8) := by kernel_rfl
theorem u32_info : (Tryd.prog.info? 69).map (fun i => (i.zero, i.size, i.bytes)) = some (some (.int .u32 0), 1, 4) := by kernel_rfl
def n64 (l : List Nat) : List Value := l.map fun x : Nat => .int .u64 (x : Int)
theorem n64_len (l : List Nat) : (n64 l).length = l.length := by simp [n64]
theorem n64_get (l : List Nat) (k : Nat) (h : k < l.length) : (n64 l)[k]? = some (.int .u64 ((l.getD k 0 : Nat) : Int)) := by simp [n64, h]
def prTo (n : Nat) : List Nat := (List.range n).filter Rf.isPrime
theorem prTo_succ (n : Nat) : prTo (n + 1) = if Rf.isPrime n then prTo n ++ [n] else prTo n := by
  unfold prTo
  rw [List.range_succ, List.filter_append]
  by_cases h : Rf.isPrime n
  · simp [h]
  · simp [h]
theorem prTo_two : prTo 2 = [] := by decide +kernel
theorem prTo_312 : (prTo 312).length = 64 := by decide +kernel
theorem prTo_take {n : Nat} (h : n ≤ 312) : prTo n = Rf.primes.take (prTo n).length := by
  have : prTo n <+: Rf.primes := by
    unfold prTo Rf.primes
    refine List.IsPrefix.filter _ ?_
    rw [List.prefix_iff_eq_take]
    simp [List.take_range, Nat.min_eq_left h]
  exact List.prefix_iff_eq_take.1 this
set_option maxHeartbeats 2000000 in
theorem primes_any (many : Nat) (hm : many ≤ 64) (w : World) : Calls Tryd.prog 54 #[.int .i64 (many : Int)] w fun e w' => ∃ q cap, e = .returned (.slice q many cap) ∧ w'.ownsRow w.heap.size 24 1 (.slice q many cap) many (n64 (Rf.primes.take many)) ∧ Below w.heap.size w w' := by
  go_enter Tryd.func54, Tryd.ntmps54
  go_wp2
  generalize hBe : w.heap.size = B at *
  have HBE := Lib.hid hBe
  clear hBe
  go_loopw [3, 4] (fun v i wr => ∃ (n m : Nat) (q : Option Addr) (cap : Nat), n ≤ 312 ∧ m ≤ many ∧ v = .slice q m cap ∧ i = .int .u64 (n : Int) ∧ Hid ((prTo n).length = m ∧ wr.ownsRow B 24 1 (.slice q m cap) m (n64 (prTo n)) ∧ Below B w wr)) (fun _ i _ => 312 - (intOf i).toNat)
  case atStart => exact ⟨2, 0, none, 0, by omega, by omega, rfl, rfl, Lib.hid ⟨by rw [prTo_two]; rfl, by rw [prTo_two]; exact World.ownsRow_nil _ _ _ _, Below.refl _ _⟩⟩
  case round =>
    obtain ⟨n, m, q, cap, hn, hmm, rfl, rfl, HJ⟩ := hrel
    have sj : B ≤ wr.heap.size := Nat.le_trans (by rw [HBE.out]; exact Nat.le_refl _) HJ.out.2.2.size
    by_cases hlt : m < many
    · have hn2 : n < 312 := by
        apply Decidable.byContradiction
        intro h
        have : n = 312 := by omega
        have h2 := HJ.out.1
        rw [this, prTo_312] at h2
        omega
      have hd : decide ((m : Int) < (many : Int)) = true := by simp; omega
      go_wp2_with fail
      refine (prime_any n (by omega) _).mono ?_
      rintro e w' ⟨rfl, rfl⟩
      cases hp : Rf.isPrime n
      · have HP := Lib.hid hp
        clear hp
        go_wp2
        go_roundw
        case rel => exact ⟨n + 1, m, q, cap, by omega, hmm, rfl, by go_num, Lib.hid (by rw [prTo_succ, HP.out]; exact HJ.out)⟩
        case measure => simp [intOf]; omega
      · have HP := Lib.hid hp
        clear hp
        go_wp2_with (at_builtin; refine wpList_append_one rfl (.tmp 15) (.tmp 17) 88 24 (.int .u64 0) 8 rfl Tryd.underlying88 u64_info rfl (by omega) B _ m (n64 (prTo n)) rfl (HJ.out.2.1.alloc _) wr.heap.size 24 (.int .u64 (n : Int)) rfl (Whole.new _ _ _) rfl (by omega) (by simp; omega) ?_)
        intro v5 w5 hown hg
        have HO5 := Lib.hid hown
        have HB5 : Hid (Below B w w5) := Lib.hid ((HJ.out.2.2.alloc sj _).grown hg (by simp; omega) (fun k hk => (HJ.out.2.1.lt k hk).1))
        clear hown hg
        obtain ⟨q5, cap5, rfl⟩ := row_form HO5.out
        go_wp2
        go_roundw
        case rel => exact ⟨n + 1, m + 1, q5, cap5, by omega, by omega, rfl, by go_num, Lib.hid ⟨by rw [prTo_succ, HP.out]; simp [HJ.out.1], by rw [prTo_succ, HP.out]; simpa [n64] using HO5.out, HB5.out⟩⟩
        case measure => simp [intOf]; omega
    · have hd : decide ((m : Int) < (many : Int)) = false := by simp; omega
      have he : m = many := by omega
      subst he
      have HE : Hid (n64 (prTo n) = n64 (Rf.primes.take m)) := Lib.hid (by have := prTo_take hn; rw [HJ.out.1] at this; rw [this])
      go_wp2
      go_ret
      exact ⟨q, cap, rfl, by rw [HBE.out, ← HE.out]; exact HJ.out.2.1, by rw [HBE.out]; exact HJ.out.2.2⟩
end Go.Proofs.YtiogfkhmigbgpaaDoor
set_option linter.unusedSimpArgs false
namespace Go.Proofs.YtiogfkhmigbgpaaDoor
set_option maxRecDepth 20000
open Go.RowKit
def rts (p many : Nat) : List (BitVec 32) := (Rf.primes.take many).map (Rf.rootW p)
theorem primes_len : Rf.primes.length = 64 := prTo_312
theorem rts_len (p many : Nat) (h : many ≤ 64) : (rts p many).length = many := by simp [rts, primes_len]; omega
theorem rts3 : rts 3 64 = Sm.rK := by
  unfold rts
  rw [List.take_of_length_le (by rw [primes_len]; omega), roots3]
theorem rts2 : rts 2 8 = Sm.rH := roots2
theorem rts_succ (p : Nat) {m : Nat} (h : m < 64) : rts p (m + 1) = rts p m ++ [Rf.rootW p (Rf.primes.getD m 0)] := by
  have hm : m < Rf.primes.length := by rw [primes_len]; exact h
  unfold rts
  rw [List.take_succ_eq_append_getElem hm, List.map_append]
  simp [hm]
theorem wds_snoc (l : List (BitVec 32)) (x : BitVec 32) : wds (l ++ [x]) = wds l ++ [.int .u32 (num x)] := by simp [wds]
theorem pr_small {m : Nat} : Rf.primes.getD m 0 < 1000 := by
  by_cases h : m < Rf.primes.length
  · have h2 : Rf.primes[m] ∈ Rf.primes := List.getElem_mem h
    have h3 := List.mem_range.1 (List.mem_filter.1 h2).1
    simp [h]
    omega
  · simp [Nat.le_of_not_lt h]
/-- The words l lie in the slice a, n, c, whose block is one of S. -/
def Wrd (w : World) (S : Nat → Prop) (a : Option Addr) (n : Nat) (l : List (BitVec 32)) : Prop := l.length = n ∧ ∃ g, a = some ⟨g, 0, none⟩ ∧ S g ∧ g < w.heap.size ∧ ∀ k, k < n → w.cell? ⟨g, k, none⟩ = some (.int .u32 (num (l.getD k 0)))
theorem Wrd.below {w w' : World} {S : Nat → Prop} {a : Option Addr} {n B : Nat} {l : List (BitVec 32)} (h : Wrd w S a n l) (hb : Below B w w') (hS : ∀ g, g < w.heap.size → S g → g < B) : Wrd w' S a n l := by
  obtain ⟨h1, g, h2, h3, h4, h5⟩ := h
  exact ⟨h1, g, h2, h3, Nat.lt_of_lt_of_le h4 hb.size, fun k hk => (hb.cell (p := ⟨g, k, none⟩) (hS g h4 h3)).trans (h5 k hk)⟩
theorem Wrd.weak {w : World} {S S' : Nat → Prop} {a : Option Addr} {n : Nat} {l : List (BitVec 32)} (h : Wrd w S a n l) (hS : ∀ g, g < w.heap.size → S g → S' g) : Wrd w S' a n l := by
  obtain ⟨h1, g, h2, h3, h4, h5⟩ := h
  exact ⟨h1, g, h2, hS g h4 h3, h4, h5⟩
theorem Wrd.own {w : World} {base n : Nat} {q : Option Addr} {cap : Nat} {l : List (BitVec 32)} (h : w.ownsRow base 69 1 (.slice q n cap) n (wds l)) (h0 : 0 < n) : Wrd w (base ≤ ·) q n l := by
  have hl : l.length = n := by have := h.1; rw [wds_len] at this; omega
  obtain ⟨g, cap', he, hb, hlt⟩ := h.form h0
  injection he with e1 e2 e3
  subst e1
  refine ⟨hl, g, rfl, hb, hlt, fun k hk => ?_⟩
  have := h.cellAt k (by omega)
  rw [wds_get _ _ (by omega)] at this
  subst e3
  simpa using this
set_option maxHeartbeats 2000000 in
theorem roots_any (many p : Nat) (h0 : 0 < many) (hm : many ≤ 64) (hp : p = 2 ∨ p = 3) (w : World) : Calls Tryd.prog 49 #[.int .i64 (many : Int), .int .i64 (p : Int)] w fun e w' => ∃ q cap, e = .returned (.slice q many cap) ∧ Wrd w' (w.heap.size ≤ ·) q many (rts p many) ∧ Below w.heap.size w w' := by
  have HP := Lib.hid hp
  clear hp
  go_enter Tryd.func49, Tryd.ntmps49
  go_wp2_with fail
  refine (primes_any many hm _).mono ?_
  rintro e w1 ⟨q1, cap1, rfl, hown, hb1⟩
  obtain ⟨g, capx, he, hbg, hlt1⟩ := hown.form h0
  injection he with e1 e2 e3
  subst e1
  subst e3
  have HC : Hid (∀ k, k < many → w1.cell? ⟨g, k, none⟩ = some (.int .u64 ((Rf.primes.getD k 0 : Nat) : Int))) := Lib.hid (by
    intro k hk
    have h2 : (n64 (Rf.primes.take many)).length = many := by rw [n64_len, List.length_take, primes_len]; omega
    have := hown.cellAt k (by omega)
    rw [n64_get _ _ (by rw [n64_len] at h2; omega)] at this
    have hk2 : k < Rf.primes.length := by rw [primes_len]; omega
    simpa [List.getElem?_take, hk, hk2] using this)
  clear hown e2
  have HB1 := Lib.hid hb1
  have hs1 := hb1.size
  clear hb1
  go_wp2
  generalize hBe : w1.heap.size = B at *
  have HBE := Lib.hid hBe
  clear hBe
  go_loopw [6, 7] (fun v i wr => ∃ (m : Nat) (q : Option Addr) (cap : Nat), m ≤ many ∧ v = .slice q m cap ∧ i = .int .i64 (m : Int) ∧ Hid (wr.ownsRow B 69 1 (.slice q m cap) m (wds (rts p m)) ∧ Below B w1 wr)) (fun _ i _ => many - (intOf i).toNat)
  case atStart => exact ⟨0, none, 0, by omega, rfl, rfl, Lib.hid ⟨World.ownsRow_nil _ _ _ _, Below.refl _ _⟩⟩
  case round =>
    obtain ⟨m, q, cap, hmm, rfl, rfl, HJ⟩ := hrel
    have sj : B ≤ wr.heap.size := Nat.le_trans (by rw [HBE.out]; exact Nat.le_refl _) HJ.out.2.size
    by_cases hlt : m < many
    · have hd : decide ((m : Int) < (many : Int)) = true := by simp; omega
      obtain ⟨x, hx⟩ : ∃ x, Rf.primes.getD m 0 = x := ⟨_, rfl⟩
      have hx2 : x < 1000 := hx ▸ pr_small
      have c0 : wr.cell? ⟨g, m, none⟩ = some (.int .u64 (x : Int)) := by rw [HJ.out.2.cell (p := ⟨g, m, none⟩) hlt1, HC.out m hlt, hx]
      have HX := Lib.hid hx
      clear hx
      go_wp2_with (first
        | (go_at_call 55; refine (root_any p HP.out x hx2 _).mono ?_; rintro e w' ⟨rfl, rfl⟩)
        | (at_builtin; refine wpList_append_one rfl (.tmp 15) (.tmp 22) 82 69 (.int .u32 0) 4 rfl Tryd.underlying82 u32_info rfl (by omega) B _ m (wds (rts p m)) rfl (HJ.out.1.alloc _) wr.heap.size 69 (.int .u32 (num (Rf.rootW p x))) rfl (Whole.new _ _ _) rfl (by omega) (by simp; omega) ?_))
      intro v5 w5 hown hg
      have HO5 := Lib.hid hown
      have HB5 : Hid (Below B w1 w5) := Lib.hid ((HJ.out.2.alloc sj _).grown hg (by simp; omega) (fun k hk => (HJ.out.1.lt k hk).1))
      clear hown hg
      obtain ⟨q5, cap5, rfl⟩ := row_form HO5.out
      go_wp2
      go_roundw
      case rel => exact ⟨m + 1, q5, cap5, by omega, rfl, by go_num, Lib.hid ⟨by rw [rts_succ p (by omega), HX.out, wds_snoc]; exact HO5.out, HB5.out⟩⟩
      case measure => simp [intOf]; omega
    · have hd : decide ((m : Int) < (many : Int)) = false := by simp; omega
      have he : m = many := by omega
      subst he
      go_wp2
      go_ret
      exact ⟨q, cap, rfl, (Wrd.own HJ.out.1 h0).weak (fun g _ h => by omega), HB1.out.trans (HJ.out.2.mono hs1)⟩
end Go.Proofs.YtiogfkhmigbgpaaDoor
set_option linter.unusedSimpArgs false
namespace Go.Proofs.YtiogfkhmigbgpaaDoor
set_option maxRecDepth 20000
open Go.RowKit
theorem bits_or_comm (x y : BitVec 32) : bits .or .u32 (num x) (num y) = bits .or .u32 (num y) (num x) := by rw [num_or, num_or, BitVec.or_comm]
theorem num_rot' (x : BitVec 32) (n m : Nat) (h : n + m = 32) (h0 : 0 < n) (h1 : 0 < m) : bits .or .u32 (num x / 2 ^ n) (num x * 2 ^ m % 4294967296) = num (x.rotateRight n) := by
  have e1 : num x * 2 ^ m % 4294967296 = num (x <<< m) := by
    unfold num; rw [BitVec.toNat_shiftLeft, Nat.shiftLeft_eq]; simp
  rw [← num_rot x n m h h0 h1, e1, num_shr, bits_or_comm]
theorem turn2 (x : BitVec 32) (w : World) : Calls Tryd.prog 57 #[.int .u32 (num x), .int .i64 2] w fun e w' => e = .returned (.int .u32 (num (x.rotateRight 2))) ∧ w = w' := by
  go_enter Tryd.func57, Tryd.ntmps57
  go_wp2
  go_ret
  exact ⟨ret_u32 (num_rot' x 2 30 (by omega) (by omega) (by omega)), rfl⟩
theorem turn13 (x : BitVec 32) (w : World) : Calls Tryd.prog 57 #[.int .u32 (num x), .int .i64 13] w fun e w' => e = .returned (.int .u32 (num (x.rotateRight 13))) ∧ w = w' := by
  go_enter Tryd.func57, Tryd.ntmps57
  go_wp2
  go_ret
  exact ⟨ret_u32 (num_rot' x 13 19 (by omega) (by omega) (by omega)), rfl⟩
theorem turn22 (x : BitVec 32) (w : World) : Calls Tryd.prog 57 #[.int .u32 (num x), .int .i64 22] w fun e w' => e = .returned (.int .u32 (num (x.rotateRight 22))) ∧ w = w' := by
  go_enter Tryd.func57, Tryd.ntmps57
  go_wp2
  go_ret
  exact ⟨ret_u32 (num_rot' x 22 10 (by omega) (by omega) (by omega)), rfl⟩
theorem turn6 (x : BitVec 32) (w : World) : Calls Tryd.prog 57 #[.int .u32 (num x), .int .i64 6] w fun e w' => e = .returned (.int .u32 (num (x.rotateRight 6))) ∧ w = w' := by
  go_enter Tryd.func57, Tryd.ntmps57
  go_wp2
  go_ret
  exact ⟨ret_u32 (num_rot' x 6 26 (by omega) (by omega) (by omega)), rfl⟩
theorem turn11 (x : BitVec 32) (w : World) : Calls Tryd.prog 57 #[.int .u32 (num x), .int .i64 11] w fun e w' => e = .returned (.int .u32 (num (x.rotateRight 11))) ∧ w = w' := by
  go_enter Tryd.func57, Tryd.ntmps57
  go_wp2
  go_ret
  exact ⟨ret_u32 (num_rot' x 11 21 (by omega) (by omega) (by omega)), rfl⟩
theorem turn25 (x : BitVec 32) (w : World) : Calls Tryd.prog 57 #[.int .u32 (num x), .int .i64 25] w fun e w' => e = .returned (.int .u32 (num (x.rotateRight 25))) ∧ w = w' := by
  go_enter Tryd.func57, Tryd.ntmps57
  go_wp2
  go_ret
  exact ⟨ret_u32 (num_rot' x 25 7 (by omega) (by omega) (by omega)), rfl⟩
theorem turn7 (x : BitVec 32) (w : World) : Calls Tryd.prog 57 #[.int .u32 (num x), .int .i64 7] w fun e w' => e = .returned (.int .u32 (num (x.rotateRight 7))) ∧ w = w' := by
  go_enter Tryd.func57, Tryd.ntmps57
  go_wp2
  go_ret
  exact ⟨ret_u32 (num_rot' x 7 25 (by omega) (by omega) (by omega)), rfl⟩
theorem turn18 (x : BitVec 32) (w : World) : Calls Tryd.prog 57 #[.int .u32 (num x), .int .i64 18] w fun e w' => e = .returned (.int .u32 (num (x.rotateRight 18))) ∧ w = w' := by
  go_enter Tryd.func57, Tryd.ntmps57
  go_wp2
  go_ret
  exact ⟨ret_u32 (num_rot' x 18 14 (by omega) (by omega) (by omega)), rfl⟩
theorem turn17 (x : BitVec 32) (w : World) : Calls Tryd.prog 57 #[.int .u32 (num x), .int .i64 17] w fun e w' => e = .returned (.int .u32 (num (x.rotateRight 17))) ∧ w = w' := by
  go_enter Tryd.func57, Tryd.ntmps57
  go_wp2
  go_ret
  exact ⟨ret_u32 (num_rot' x 17 15 (by omega) (by omega) (by omega)), rfl⟩
theorem turn19 (x : BitVec 32) (w : World) : Calls Tryd.prog 57 #[.int .u32 (num x), .int .i64 19] w fun e w' => e = .returned (.int .u32 (num (x.rotateRight 19))) ∧ w = w' := by
  go_enter Tryd.func57, Tryd.ntmps57
  go_wp2
  go_ret
  exact ⟨ret_u32 (num_rot' x 19 13 (by omega) (by omega) (by omega)), rfl⟩
theorem txt_cell4 {w : World} {S : Nat → Prop} {b off n c : Nat} {l : List Int} (h : Txt w S (some ⟨b, off, none⟩) n c l) {k : Nat} (hk : k < n) : w.cell? ⟨b, off + k, none⟩ = some (.int .u8 (l.getD k 0)) := by
  obtain ⟨b', off', he, _, _, hc⟩ := h.cell hk
  injection he with he
  injection he with e1 e2 e3
  subst e1; subst e2
  exact hc
set_option maxHeartbeats 4000000 in
set_option maxRecDepth 100000 in
theorem words_any {S : Nat → Prop} {ba off c : Nat} (b : List Int) (w : World) (hT : Txt w S (some ⟨ba, off, none⟩) 64 c b) :
    Calls Tryd.prog 56 #[.slice (some ⟨ba, off, none⟩) 64 c] w fun e w' => e = .returned (.agg (wds (Sm.sched b)).toArray) ∧ Below w.heap.size w w' := by
  have hb := hT.2.2.1
  have HL := Lib.hid hT.1
  have HT := Lib.hid hT.old
  have HC : Hid (64 ≤ c) := Lib.hid hT.2.1
  clear hT
  go_enter Tryd.func56, Tryd.ntmps56
  go_wp2_with ((with_reducible show wpList _ _ _ ((⟨_, Op.store 85 _ _, _, _, _, _⟩ : Oper) :: _) _ _); refine wpList_store_row rfl _ (.tmp 3) (.tmp 10) rfl (w.heap.size + 1) (wds (zeros32 64)).toArray rfl rfl 85 (wds (zeros32 64)).toArray ?k2 infoW64 rfl (all_wds _) ?_)
  case k2 =>
    have k2 := Whole.new (w.alloc (.cells #[Value.int IntKind.u32 0, Value.int IntKind.u32 0, Value.int IntKind.u32 0, Value.int IntKind.u32 0, Value.int IntKind.u32 0, Value.int IntKind.u32 0, Value.int IntKind.u32 0, Value.int IntKind.u32 0, Value.int IntKind.u32 0, Value.int IntKind.u32 0, Value.int IntKind.u32 0, Value.int IntKind.u32 0, Value.int IntKind.u32 0, Value.int IntKind.u32 0, Value.int IntKind.u32 0, Value.int IntKind.u32 0, Value.int IntKind.u32 0, Value.int IntKind.u32 0, Value.int IntKind.u32 0, Value.int IntKind.u32 0, Value.int IntKind.u32 0, Value.int IntKind.u32 0, Value.int IntKind.u32 0, Value.int IntKind.u32 0, Value.int IntKind.u32 0, Value.int IntKind.u32 0, Value.int IntKind.u32 0, Value.int IntKind.u32 0, Value.int IntKind.u32 0, Value.int IntKind.u32 0, Value.int IntKind.u32 0, Value.int IntKind.u32 0, Value.int IntKind.u32 0, Value.int IntKind.u32 0, Value.int IntKind.u32 0, Value.int IntKind.u32 0, Value.int IntKind.u32 0, Value.int IntKind.u32 0, Value.int IntKind.u32 0, Value.int IntKind.u32 0, Value.int IntKind.u32 0, Value.int IntKind.u32 0, Value.int IntKind.u32 0, Value.int IntKind.u32 0, Value.int IntKind.u32 0, Value.int IntKind.u32 0, Value.int IntKind.u32 0, Value.int IntKind.u32 0, Value.int IntKind.u32 0, Value.int IntKind.u32 0, Value.int IntKind.u32 0, Value.int IntKind.u32 0, Value.int IntKind.u32 0, Value.int IntKind.u32 0, Value.int IntKind.u32 0, Value.int IntKind.u32 0, Value.int IntKind.u32 0, Value.int IntKind.u32 0, Value.int IntKind.u32 0, Value.int IntKind.u32 0, Value.int IntKind.u32 0, Value.int IntKind.u32 0, Value.int IntKind.u32 0, Value.int IntKind.u32 0] 85)) 85 #[Value.int IntKind.u32 0, Value.int IntKind.u32 0, Value.int IntKind.u32 0, Value.int IntKind.u32 0, Value.int IntKind.u32 0, Value.int IntKind.u32 0, Value.int IntKind.u32 0, Value.int IntKind.u32 0, Value.int IntKind.u32 0, Value.int IntKind.u32 0, Value.int IntKind.u32 0, Value.int IntKind.u32 0, Value.int IntKind.u32 0, Value.int IntKind.u32 0, Value.int IntKind.u32 0, Value.int IntKind.u32 0, Value.int IntKind.u32 0, Value.int IntKind.u32 0, Value.int IntKind.u32 0, Value.int IntKind.u32 0, Value.int IntKind.u32 0, Value.int IntKind.u32 0, Value.int IntKind.u32 0, Value.int IntKind.u32 0, Value.int IntKind.u32 0, Value.int IntKind.u32 0, Value.int IntKind.u32 0, Value.int IntKind.u32 0, Value.int IntKind.u32 0, Value.int IntKind.u32 0, Value.int IntKind.u32 0, Value.int IntKind.u32 0, Value.int IntKind.u32 0, Value.int IntKind.u32 0, Value.int IntKind.u32 0, Value.int IntKind.u32 0, Value.int IntKind.u32 0, Value.int IntKind.u32 0, Value.int IntKind.u32 0, Value.int IntKind.u32 0, Value.int IntKind.u32 0, Value.int IntKind.u32 0, Value.int IntKind.u32 0, Value.int IntKind.u32 0, Value.int IntKind.u32 0, Value.int IntKind.u32 0, Value.int IntKind.u32 0, Value.int IntKind.u32 0, Value.int IntKind.u32 0, Value.int IntKind.u32 0, Value.int IntKind.u32 0, Value.int IntKind.u32 0, Value.int IntKind.u32 0, Value.int IntKind.u32 0, Value.int IntKind.u32 0, Value.int IntKind.u32 0, Value.int IntKind.u32 0, Value.int IntKind.u32 0, Value.int IntKind.u32 0, Value.int IntKind.u32 0, Value.int IntKind.u32 0, Value.int IntKind.u32 0, Value.int IntKind.u32 0, Value.int IntKind.u32 0]
    rw [size_alloc] at k2
    exact k2
  rw [zero64]
  have kr := (((Whole.new w 85 (wds (zeros32 64)).toArray).alloc (.cells (wds (zeros32 64)).toArray 85)).rowFar (b := w.heap.size + 1) (by omega) (wds (zeros32 64)).toArray)
  have kw0 := Whole.new (w.alloc (.cells (wds (zeros32 64)).toArray 85)) 85 (wds (zeros32 64)).toArray
  rw [size_alloc] at kw0
  have kw := kw0.row (wds (zeros32 64)).toArray
  have hb3 : Below w.heap.size w (((w.alloc (.cells (wds (zeros32 64)).toArray 85)).alloc (.cells (wds (zeros32 64)).toArray 85)).setRow (w.heap.size + 1) (wds (zeros32 64)).toArray) := below_row ((below_alloc w _).alloc (by simp) _) (by omega) _
  clear kw0
  generalize ((w.alloc (.cells (wds (zeros32 64)).toArray 85)).alloc (.cells (wds (zeros32 64)).toArray 85)).setRow (w.heap.size + 1) (wds (zeros32 64)).toArray = w3 at *
  generalize hBe : w.heap.size = B at *
  have HBE := Lib.hid hBe
  clear hBe
  have H0 := Lib.hid (And.intro kr (And.intro kw hb3))
  clear kr kw hb3
  go_loopw [4] (fun i wr => ∃ k : Nat, k ≤ 16 ∧ i = .int .i64 k ∧ Hid (Whole wr B 85 (wds (zeros32 64)).toArray ∧ Whole wr (B + 1) 85 (wds (Sm.w16 b k ++ zeros32 (64 - k))).toArray ∧ Below B w wr)) (fun i _ => 16 - (intOf i).toNat)
  case atStart => exact ⟨0, Nat.zero_le _, rfl, Lib.hid H0.out⟩
  case round =>
    obtain ⟨k, hk, rfl, HB⟩ := hrel
    by_cases hlt : k < 16
    · have HTT := Lib.hid (HT.out.below HB.out.2.2 (fun b _ h => h))
      have c0 : wr.cell? ⟨ba, off + 4 * k, none⟩ = some (.int .u8 (b.getD (4 * k) 0)) := txt_cell4 HTT.out (by omega)
      have c1 : wr.cell? ⟨ba, off + (4 * k + 1), none⟩ = some (.int .u8 (b.getD (4 * k + 1) 0)) := txt_cell4 HTT.out (by omega)
      have c2 : wr.cell? ⟨ba, off + (4 * k + 2), none⟩ = some (.int .u8 (b.getD (4 * k + 2) 0)) := txt_cell4 HTT.out (by omega)
      have c3 : wr.cell? ⟨ba, off + (4 * k + 3), none⟩ = some (.int .u8 (b.getD (4 * k + 3) 0)) := txt_cell4 HTT.out (by omega)
      have d0 := byt_getD hb (4 * k)
      have d1 := byt_getD hb (4 * k + 1)
      have d2 := byt_getD hb (4 * k + 2)
      have d3 := byt_getD hb (4 * k + 3)
      have ev := word_or _ _ _ _ d0 d1 d2 d3
      rw [show BitVec.ofInt 32 (b.getD (4 * k) 0 * 16777216 + b.getD (4 * k + 1) 0 * 65536 + b.getD (4 * k + 2) 0 * 256 + b.getD (4 * k + 3) 0) = Sm.wd b k from rfl] at ev
      generalize b.getD (4 * k) 0 = x0 at *
      generalize b.getD (4 * k + 1) 0 = x1 at *
      generalize b.getD (4 * k + 2) 0 = x2 at *
      generalize b.getD (4 * k + 3) 0 = x3 at *
      have e0 : IntKind.i64.wrap (4 * (k : Int)) = 4 * (k : Int) := IntWalk.i64_in _ (by omega)
      have e1 : IntKind.i64.wrap (4 * (k : Int) + 1) = 4 * (k : Int) + 1 := IntWalk.i64_in _ (by omega)
      have e2 : IntKind.i64.wrap (4 * (k : Int) + 2) = 4 * (k : Int) + 2 := IntWalk.i64_in _ (by omega)
      have e3 : IntKind.i64.wrap (4 * (k : Int) + 3) = 4 * (k : Int) + 3 := IntWalk.i64_in _ (by omega)
      have n0 : (4 * (k : Int)).toNat = 4 * k := by omega
      have n1 : (4 * (k : Int) + 1).toNat = 4 * k + 1 := by omega
      have n2 : (4 * (k : Int) + 2).toNat = 4 * k + 2 := by omega
      have n3 : (4 * (k : Int) + 3).toNat = 4 * k + 3 := by omega
      have p0 : 0 ≤ 4 * (k : Int) := by omega
      have p1 : 0 ≤ 4 * (k : Int) + 1 := by omega
      have p2 : 0 ≤ 4 * (k : Int) + 2 := by omega
      have p3 : 0 ≤ 4 * (k : Int) + 3 := by omega
      have q0 : 4 * (k : Int) < 64 := by omega
      have q1 : 4 * (k : Int) + 1 < 64 := by omega
      have q2 : 4 * (k : Int) + 2 < 64 := by omega
      have q3 : 4 * (k : Int) + 3 < 64 := by omega
      have q4 : (k : Int) < 64 := by omega
      have cw : wr.cell? ⟨B + 1, k, none⟩ = some (.int .u32 (num ((Sm.w16 b k ++ zeros32 (64 - k)).getD k 0))) := (HB.out.2.1.cell k).trans (by rw [List.getElem?_toArray, wds_get _ _ (by simp [Sm.w16, zeros32]; omega)])
      have fw : wr.frozen? ⟨B + 1, k, none⟩ = false := HB.out.2.1.frozen k
      generalize (Sm.w16 b k ++ zeros32 (64 - k)).getD k 0 = old at *
      go_wp2
      go_still_tail 34, (by kernel_rfl)
      change wpList _ _ _ _ _ wr.drew
      go_wp2
      go_roundw
      case rel =>
        refine ⟨k + 1, by omega, by go_num, ?_⟩
        exact Lib.hid ⟨HB.out.1.far (p := ⟨B + 1, k, none⟩) (by show B ≠ B + 1; omega) _,
          by rw [← w16_set b k hlt]; exact HB.out.2.1.set k _, HB.out.2.2.drew.setCell (by show B ≤ B + 1; omega) _⟩
      case measure => simp [intOf]; omega
    · have HK : Hid (k = 16) := Lib.hid (by omega)
      go_wp2
      clear H0
      go_loopw [5] (fun i wr => ∃ k : Nat, k ≤ 48 ∧ i = .int .i64 (16 + (k : Int)) ∧ Hid (Whole wr B 85 (wds (zeros32 64)).toArray ∧ Whole wr (B + 1) 85 (wds (Sm.wTo b k ++ zeros32 (48 - k))).toArray ∧ Below B w wr)) (fun i _ => 64 - (intOf i).toNat)
      case atStart =>
        have := HB.out
        rw [HK.out] at this
        exact ⟨0, Nat.zero_le _, rfl, Lib.hid this⟩
      case round =>
        clear HB
        obtain ⟨k, hk, rfl, HB⟩ := hrel
        by_cases hlt : k < 48
        · have HC : ∀ j, j < 16 + k → wr.cell? ⟨B + 1, j, none⟩ = some (.int .u32 (num ((Sm.wTo b k).getD j 0))) := by
            intro j hj
            rw [HB.out.2.1.cell j, List.getElem?_toArray, wds_get _ _ (by simp [wTo_len, zeros32]; omega)]
            have : j < (Sm.wTo b k).length := by rw [wTo_len]; omega
            simp [List.getElem?_append_left this]
          have c0 := HC (14 + k) (by omega)
          have c1 := HC (9 + k) (by omega)
          have c2 := HC (1 + k) (by omega)
          have c3 := HC k (by omega)
          clear HC
          have ev : Sm.nextW (Sm.wTo b k) (16 + k) = Sm.s1 ((Sm.wTo b k).getD (14 + k) 0) + (Sm.wTo b k).getD (9 + k) 0 + Sm.s0 ((Sm.wTo b k).getD (1 + k) 0) + (Sm.wTo b k).getD k 0 := by
            unfold Sm.nextW
            rw [show 16 + k - 2 = 14 + k by omega, show 16 + k - 7 = 9 + k by omega, show 16 + k - 15 = 1 + k by omega, show 16 + k - 16 = k by omega]
          have EV := Lib.hid ev
          clear ev
          generalize (Sm.wTo b k).getD (14 + k) 0 = x0 at *
          generalize (Sm.wTo b k).getD (9 + k) 0 = x1 at *
          generalize (Sm.wTo b k).getD (1 + k) 0 = x2 at *
          generalize (Sm.wTo b k).getD k 0 = x3 at *
          have e0 : IntKind.i64.wrap (16 + (k : Int) - 2) = 16 + (k : Int) - 2 := IntWalk.i64_in _ (by omega)
          have e1 : IntKind.i64.wrap (16 + (k : Int) - 7) = 16 + (k : Int) - 7 := IntWalk.i64_in _ (by omega)
          have e2 : IntKind.i64.wrap (16 + (k : Int) - 15) = 16 + (k : Int) - 15 := IntWalk.i64_in _ (by omega)
          have e3 : IntKind.i64.wrap (16 + (k : Int) - 16) = 16 + (k : Int) - 16 := IntWalk.i64_in _ (by omega)
          have n0 : (16 + (k : Int) - 2).toNat = 14 + k := by omega
          have n1 : (16 + (k : Int) - 7).toNat = 9 + k := by omega
          have n2 : (16 + (k : Int) - 15).toNat = 1 + k := by omega
          have n3 : (16 + (k : Int) - 16).toNat = k := by omega
          have n4 : (16 + (k : Int)).toNat = 16 + k := by omega
          have p0 : 0 ≤ 16 + (k : Int) - 2 := by omega
          have p1 : 0 ≤ 16 + (k : Int) - 7 := by omega
          have p2 : 0 ≤ 16 + (k : Int) - 15 := by omega
          have p3 : 0 ≤ 16 + (k : Int) - 16 := by omega
          have p4 : 0 ≤ 16 + (k : Int) := by omega
          have r0 : 2 ≤ 16 + (k : Int) := by omega
          have r1 : 7 ≤ 16 + (k : Int) := by omega
          have r2 : 15 ≤ 16 + (k : Int) := by omega
          have r3 : 16 ≤ 16 + (k : Int) := by omega
          have q0 : 16 + (k : Int) - 2 < 64 := by omega
          have q1 : 16 + (k : Int) - 7 < 64 := by omega
          have q2 : 16 + (k : Int) - 15 < 64 := by omega
          have q3 : 16 + (k : Int) - 16 < 64 := by omega
          have q4 : 16 + (k : Int) < 64 := by omega
          have hd : decide (16 + (k : Int) < 64) = true := by simp; omega
          have cw : wr.cell? ⟨B + 1, 16 + k, none⟩ = some (.int .u32 (num ((Sm.wTo b k ++ zeros32 (48 - k)).getD (16 + k) 0))) := (HB.out.2.1.cell (16 + k)).trans (by rw [List.getElem?_toArray, wds_get _ _ (by simp [wTo_len, zeros32]; omega)])
          have fw : wr.frozen? ⟨B + 1, 16 + k, none⟩ = false := HB.out.2.1.frozen (16 + k)
          generalize (Sm.wTo b k ++ zeros32 (48 - k)).getD (16 + k) 0 = old at *
          go_wp2_with fail
          refine (turn7 x2 _).mono ?_
          rintro e w' ⟨rfl, rfl⟩
          go_wp2_with fail
          refine (turn18 x2 _).mono ?_
          rintro e w' ⟨rfl, rfl⟩
          have hs0 : bits .xor .u32 (bits .xor .u32 (num (x2.rotateRight 7)) (num (x2.rotateRight 18))) (num x2 / 8) = num (Sm.s0 x2) := by
            rw [num_xor]; exact (congrArg _ (num_shr x2 3)).trans (num_xor _ _)
          go_wp2_with fail
          clear hs0
          refine (turn17 x0 _).mono ?_
          rintro e w' ⟨rfl, rfl⟩
          go_wp2_with fail
          refine (turn19 x0 _).mono ?_
          rintro e w' ⟨rfl, rfl⟩
          have hs1 : bits .xor .u32 (bits .xor .u32 (num (x0.rotateRight 17)) (num (x0.rotateRight 19))) (num x0 / 1024) = num (Sm.s1 x0) := by
            rw [num_xor]; exact (congrArg _ (num_shr x0 10)).trans (num_xor _ _)
          go_wp2
          clear hs1
          go_still_tail 14, (by kernel_rfl)
          change wpList _ _ _ _ _ wr.drew
          clear e0 e1 e2 e3 n0 n1 n2 n3 p0 p1 p2 p3 q0 q1 q2 q3 r0 r1 r2 r3 c0 c1 c2 c3
          simp only [num_wadd]
          go_wp2
          go_roundw
          case rel =>
            refine ⟨k + 1, by omega, by go_num, ?_⟩
            exact Lib.hid ⟨HB.out.1.far (p := ⟨B + 1, 16 + k, none⟩) (by show B ≠ B + 1; omega) _,
              by rw [← wTo_set b k hlt, EV.out]; exact HB.out.2.1.set (16 + k) _, HB.out.2.2.drew.setCell (by show B ≤ B + 1; omega) _⟩
          case measure => simp [intOf]; omega
        · have hd : decide (16 + (k : Int) < 64) = false := by simp; omega
          obtain rfl : k = 48 := by omega
          have K1 : Hid (Whole wr B 85 (wds (zeros32 64)).toArray) := Lib.hid HB.out.1
          have K2 : Hid (Whole wr (B + 1) 85 (wds (Sm.sched b)).toArray) := Lib.hid (by have := HB.out.2.1; simpa [zeros32, Sm.sched] using this)
          have hNs : (wds (Sm.sched b)).toArray.size = 64 := by simp [wds_len, Sm.sched, wTo_len]
          have hNa := all_wds (Sm.sched b)
          have HZ : Hid ((wds (zeros32 64)).toArray.size = 64) := Lib.hid (by simp [wds_len, zeros32])
          generalize hN : (wds (Sm.sched b)).toArray = N at *
          have HN := Lib.hid hN
          have HNS := Lib.hid hNs
          clear hN hNs
          go_wp2_with (first
            | ((with_reducible show wpList _ _ _ ((⟨_, Op.load 85 _, _, _, _, _⟩ : Oper) :: _) _ _); refine wpList_load_row rfl _ (.tmp 3) rfl (B + 1) rfl 85 N (0, 0) _ K2.out undW64 rfl (by rw [HNS.out]; exact infoW64) ?_)
            | ((with_reducible show wpList _ _ _ ((⟨_, Op.store 85 _ _, _, _, _, _⟩ : Oper) :: _) _ _); refine wpList_store_row rfl _ (.tmp 2) (.tmp 93) rfl B N rfl rfl 85 _ K1.out (by rw [HNS.out]; exact infoW64) (by rw [HZ.out, HNS.out]) hNa ?_))
          refine bodyPost_ret (results_one_cell rfl _ _ _ _ rfl (run_loadVar_row _ _ _ _ _ (0, 0) _ (K1.out.row N) undW64 rfl (by rw [HNS.out]; exact infoW64))) rfl ?_
          exact ⟨by rw [HN.out], by rw [HBE.out]; exact below_row HB.out.2.2 (by omega) N⟩
end Go.Proofs.YtiogfkhmigbgpaaDoor
