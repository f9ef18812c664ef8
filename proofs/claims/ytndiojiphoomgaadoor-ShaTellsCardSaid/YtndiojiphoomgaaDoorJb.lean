/-
  The document's prime, primes, roots.
-/
import Derived.Test.YtndiojiphoomgaaDoorJa
import Derived.Test.YtndiojiphoomgaaDoorHv
import Derived.Deep.DeepCutAuto
set_option linter.unusedSimpArgs false
namespace Go.Proofs.YtndiojiphoomgaaDoor
open Go.RowKit
theorem prime_no {n d : Nat} (h2 : 2 ≤ d) (hdd : d * d ≤ n) (hm : n % d = 0) : Rf.isPrime n = false := by
  have hd : d < n := by
    have : d * 2 ≤ d * d := Nat.mul_le_mul_left d h2
    omega
  unfold Rf.isPrime
  rw [Bool.and_eq_false_iff]
  right
  rw [List.all_eq_false]
  exact ⟨d, List.mem_range.2 hd, by simp [hm]; omega⟩
theorem prime_yes {n d : Nat} (hdd : n < d * d) (h : ∀ j, 2 ≤ j → j < d → n % j ≠ 0) : Rf.isPrime n = decide (1 < n) := by
  unfold Rf.isPrime
  have : ((List.range n).all fun d => decide (d < 2) || decide (n < d * d) || decide (n % d ≠ 0)) = true := by
    rw [List.all_eq_true]
    intro j _
    by_cases h2 : j < 2
    · simp [h2]
    · by_cases hj : j < d
      · have := h j (by omega) hj
        simp [this]
      · have : d * d ≤ j * j := Nat.mul_le_mul (by omega) (by omega)
        have : n < j * j := by omega
        simp [this]
  rw [this, Bool.and_true]
theorem prime_any (n : Nat) (hn : n < 1000) (w : World) : Calls Tryd.prog 34 #[.int .u64 (n : Int)] w fun e w' => e = .returned (.bool (Rf.isPrime n)) ∧ w = w' := by
  go_enter Tryd.func34, Tryd.ntmps34
  go_wp2
  go_loopw [3] (fun v wr => ∃ d : Nat, 2 ≤ d ∧ d ≤ n + 2 ∧ v = .int .u64 (d : Int) ∧ Hid (∀ j, 2 ≤ j → j < d → n % j ≠ 0) ∧ wr = w) (fun v _ => n + 2 - (intOf v).toNat)
  case atStart => exact ⟨2, by omega, by omega, rfl, Lib.hid (by intro j h1 h2; omega), rfl⟩
  case round =>
    obtain ⟨d, hd2, hdn, rfl, HJ, rfl⟩ := hrel
    obtain ⟨q, hq⟩ : ∃ q, d * d = q := ⟨_, rfl⟩
    have hq1 : d * 2 ≤ q := hq ▸ Nat.mul_le_mul_left d hd2
    have hq2 : q ≤ 1002 * 1002 := hq ▸ Nat.mul_le_mul (by omega) (by omega)
    have e0 : (d : Int) * (d : Int) = (q : Int) := by rw [← hq]; simp
    have e1 : IntKind.u64.wrap ((d : Int) * (d : Int)) = (q : Int) := by rw [e0, IntKind.wrap_u64]; omega
    have HQ := Lib.hid hq
    clear hq e0
    by_cases hle : q ≤ n
    · obtain ⟨m, hm⟩ : ∃ m, n % d = m := ⟨_, rfl⟩
      have e2 : (n : Int).tmod (d : Int) = (m : Int) := by rw [← hm]; rfl
      have HM := Lib.hid hm
      clear hm
      by_cases h0 : m = 0
      · subst h0
        go_wp2
        go_ret
        exact ⟨ret_bool (prime_no hd2 (by rw [HQ.out]; exact hle) HM.out).symm, rfl⟩
      · go_wp2
        go_roundw
        case rel =>
          refine ⟨d + 1, by omega, by omega, by go_num, Lib.hid ?_, by trivial⟩
          intro j h1 h2
          by_cases hj : j = d
          · subst hj; rw [HM.out]; exact h0
          · exact HJ.out j h1 (by omega)
        case measure => simp [intOf]; omega
    · go_wp2
      go_ret
      refine ⟨ret_bool ?_, rfl⟩
      rw [prime_yes (d := d) (by rw [HQ.out]; omega) HJ.out]
      simp; omega
theorem row_form {w : World} {base e size n : Nat} {v : Value} {xs : List Value} (h : w.ownsRow base e size v n xs) : ∃ q cap, v = .slice q n cap := by
  rcases h.2 with ⟨rfl, h0⟩ | ⟨g', cap, _, rfl, _⟩
  · exact ⟨_, _, by rw [h0]⟩
  · exact ⟨_, _, rfl⟩
/-- append of one value of one cell, that lies in a new block. -/
theorem wpList_append_one {w : World} {ops : Array Oper} {rest : List Oper} {o : Oper} {a : Act} {Q : Exit → Act → World → Prop} (hgd : o.guard = none) (s x : Operand) (T e : TypeId) (z : Value) (by8 : Nat)
    (ho : o.op = .call { callee := .builtin .append, args := #[s, x], argTypes := #[T, T] }) (hT : Tryd.prog.underlying T = some (.slice e)) (hinfo : (Tryd.prog.info? e).map (fun i => (i.zero, i.size, i.bytes)) = some (some z, 1, by8)) (hzs : z.cells.size = 1) (h8 : by8 ≤ 8)
    (base : Nat) (v : Value) (n : Nat) (xs : List Value) (hs : a.eval s = v) (hown : w.ownsRow base e 1 v n xs)
    (g : Nat) (T' : TypeId) (u : Value) (hx : a.eval x = .slice (some ⟨g, 0, none⟩) 1 1) (hg : Whole w g T' #[u]) (h1 : u.oneCell' = true)
    (hn : n ≤ 1000000) (hbase : base ≤ w.heap.size)
    (h : ∀ v' w', w'.ownsRow base e 1 v' (n + 1) (xs ++ [u]) → w.grownBy w' v.ownBlock → wpList Tryd.prog ops Q rest (a.put o.dst v') w') : wpList Tryd.prog ops Q (o :: rest) a w := by
  obtain ⟨i0, hi0, hz0, hz1, hz2⟩ := info_parts hinfo
  refine wpList_plain hgd fun _ hK => ?_
  have hb : (n + 1) * by8 ≤ 140737488355328 := Nat.le_trans (Nat.mul_le_mul (show n + 1 ≤ 1000001 by omega) h8) (by decide)
  obtain ⟨v', w', hrun, h2, h3, _, h5⟩ := run_append_own_at (P := Tryd.prog) w base T o.type e i0 z 1 by8 hT hi0 hz0 hz1 hz2 hzs (by omega) v n xs hown ⟨g, 0, none⟩ 1 1 [u] (by simp) (fun j t hu => by rw [Addr.add_lit, Nat.zero_add, hg.cell, List.getElem?_toArray]; exact hu) (by intro t ht; simp at ht; rw [ht]; exact h1) (by unfold maxLen; omega) hb hbase
  unfold Oper.wp execOp
  simp only [ho, resolve, invoke, builtin, Sem.run_bind, Sem.run_pure, Result.andThen_ok, List.map_toArray, List.map_cons, List.map_nil, hs, hx, hrun]
  exact hK _ _ (h v' w' h2 h3)
theorem u64_info : (Tryd.prog.info? 40).map (fun i => (i.zero, i.size, i.bytes)) = some (some (.int .u64 0), 1, 8) := by kernel_rfl
theorem u32_info : (Tryd.prog.info? 37).map (fun i => (i.zero, i.size, i.bytes)) = some (some (.int .u32 0), 1, 4) := by kernel_rfl
def n64 (l : List Nat) : List Value := l.map fun x : Nat => .int .u64 (x : Int)
theorem n64_len (l : List Nat) : (n64 l).length = l.length := by simp [n64]
theorem n64_get (l : List Nat) (k : Nat) (h : k < l.length) : (n64 l)[k]? = some (.int .u64 ((l.getD k 0 : Nat) : Int)) := by simp [n64, h]
def prTo (n : Nat) : List Nat := (List.range n).filter Rf.isPrime
theorem prTo_succ (n : Nat) : prTo (n + 1) = if Rf.isPrime n then prTo n ++ [n] else prTo n := by
  unfold prTo
  rw [List.range_succ, List.filter_append]
  by_cases h : Rf.isPrime n
  · simp [h]
  · simp [h]
theorem prTo_two : prTo 2 = [] := by decide +kernel
theorem prTo_312 : (prTo 312).length = 64 := by decide +kernel
theorem prTo_take {n : Nat} (h : n ≤ 312) : prTo n = Rf.primes.take (prTo n).length := by
  have : prTo n <+: Rf.primes := by
    unfold prTo Rf.primes
    refine List.IsPrefix.filter _ ?_
    rw [List.prefix_iff_eq_take]
    simp [List.take_range, Nat.min_eq_left h]
  exact List.prefix_iff_eq_take.1 this
set_option maxHeartbeats 2000000 in
theorem primes_any (many : Nat) (hm : many ≤ 64) (w : World) : Calls Tryd.prog 26 #[.int .i64 (many : Int)] w fun e w' => ∃ q cap, e = .returned (.slice q many cap) ∧ w'.ownsRow w.heap.size 40 1 (.slice q many cap) many (n64 (Rf.primes.take many)) ∧ Below w.heap.size w w' := by
  go_enter Tryd.func26, Tryd.ntmps26
  go_wp2
  generalize hBe : w.heap.size = B at *
  have HBE := Lib.hid hBe
  clear hBe
  go_loopw [3, 4] (fun v i wr => ∃ (n m : Nat) (q : Option Addr) (cap : Nat), n ≤ 312 ∧ m ≤ many ∧ v = .slice q m cap ∧ i = .int .u64 (n : Int) ∧ Hid ((prTo n).length = m ∧ wr.ownsRow B 40 1 (.slice q m cap) m (n64 (prTo n)) ∧ Below B w wr)) (fun _ i _ => 312 - (intOf i).toNat)
  case atStart => exact ⟨2, 0, none, 0, by omega, by omega, rfl, rfl, Lib.hid ⟨by rw [prTo_two]; rfl, by rw [prTo_two]; exact World.ownsRow_nil _ _ _ _, Below.refl _ _⟩⟩
  case round =>
    obtain ⟨n, m, q, cap, hn, hmm, rfl, rfl, HJ⟩ := hrel
    have sj : B ≤ wr.heap.size := Nat.le_trans (by rw [HBE.out]; exact Nat.le_refl _) HJ.out.2.2.size
    by_cases hlt : m < many
    · have hn2 : n < 312 := by
        apply Decidable.byContradiction
        intro h
        have : n = 312 := by omega
        have h2 := HJ.out.1
        rw [this, prTo_312] at h2
        omega
      have hd : decide ((m : Int) < (many : Int)) = true := by simp; omega
      go_wp2_with fail
      refine (prime_any n (by omega) _).mono ?_
      rintro e w' ⟨rfl, rfl⟩
      cases hp : Rf.isPrime n
      · have HP := Lib.hid hp
        clear hp
        go_wp2
        go_roundw
        case rel => exact ⟨n + 1, m, q, cap, by omega, hmm, rfl, by go_num, Lib.hid (by rw [prTo_succ, HP.out]; exact HJ.out)⟩
        case measure => simp [intOf]; omega
      · have HP := Lib.hid hp
        clear hp
        go_wp2_with (at_builtin; refine wpList_append_one rfl (.tmp 15) (.tmp 17) 56 40 (.int .u64 0) 8 rfl Tryd.underlying56 u64_info rfl (by omega) B _ m (n64 (prTo n)) rfl (HJ.out.2.1.alloc _) wr.heap.size 40 (.int .u64 (n : Int)) rfl (Whole.new _ _ _) rfl (by omega) (by simp; omega) ?_)
        intro v5 w5 hown hg
        have HO5 := Lib.hid hown
        have HB5 : Hid (Below B w w5) := Lib.hid ((HJ.out.2.2.alloc sj _).grown hg (by simp; omega) (fun k hk => (HJ.out.2.1.lt k hk).1))
        clear hown hg
        obtain ⟨q5, cap5, rfl⟩ := row_form HO5.out
        go_wp2
        go_roundw
        case rel => exact ⟨n + 1, m + 1, q5, cap5, by omega, by omega, rfl, by go_num, Lib.hid ⟨by rw [prTo_succ, HP.out]; simp [HJ.out.1], by rw [prTo_succ, HP.out]; simpa [n64] using HO5.out, HB5.out⟩⟩
        case measure => simp [intOf]; omega
    · have hd : decide ((m : Int) < (many : Int)) = false := by simp; omega
      have he : m = many := by omega
      subst he
      have HE : Hid (n64 (prTo n) = n64 (Rf.primes.take m)) := Lib.hid (by have := prTo_take hn; rw [HJ.out.1] at this; rw [this])
      go_wp2
      go_ret
      exact ⟨q, cap, rfl, by rw [HBE.out, ← HE.out]; exact HJ.out.2.1, by rw [HBE.out]; exact HJ.out.2.2⟩
end Go.Proofs.YtndiojiphoomgaaDoor
