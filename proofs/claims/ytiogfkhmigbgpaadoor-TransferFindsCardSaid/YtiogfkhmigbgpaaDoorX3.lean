/-
  The package's closure that goes round: what it hands out; the call that makes it.
-/
import Derived.Test.YtiogfkhmigbgpaaDoorX2
import Derived.RangeFuncNested
import Derived.RangeFuncBound
import Derived.RangeFuncCalls
import Derived.RangeFuncLeaves
import Derived.RangeFuncBox
import Derived.Shelf.Abstract
import Derived.Shelf.RegionOpen
import Derived.WalkKit
import Derived.OwnWalkIn
import Derived.TacticsInMore
import Derived.LoopNIn
import Derived.LoopIn
import Derived.BigRegionIn
namespace Go.Proofs.YtiogfkhmigbgpaaDoor
open Go.RowKit Go.Shelf
attribute [local go_sem] Oper.semAt_some
set_option linter.unusedVariables false
set_option linter.unusedSimpArgs false
set_option maxRecDepth 100000
/-- Going round: all of n, from d on. -/
def ring (n d : Nat) : List { x : Nat // x < n } := (List.range n).attach.map fun k => ⟨(d % n + k.1) % n, Nat.mod_lt _ (by have := List.mem_range.1 k.2; omega)⟩
theorem ring_len (n d : Nat) : (ring n d).length = n := by simp [ring]
theorem ring_at {n d k : Nat} (h : k < (ring n d).length) : (ring n d)[k].1 = (d % n + k) % n := by simp [ring]
theorem ring_next {n d k : Nat} (h : k < n) : (ring n d).take (k + 1) = (ring n d).take k ++ [⟨(d % n + k) % n, Nat.mod_lt _ (by omega)⟩] := by
  rw [List.take_succ_eq_append_getElem (by rw [ring_len]; exact h)]
  congr 2
  exact Subtype.ext (ring_at _)
theorem wrap_same (x : Int) : IntKind.i64.wrap x = wrap64 x := by rw [IntKind.wrap_i64]; unfold wrap64; omega
theorem ring_wrap (X n i : Nat) (h0 : 0 < n) (hn : n ≤ 1000) (hi : i < n) : (((X % n + i) % n : Nat) : Int) = IntKind.i64.wrap ((IntKind.u64.wrap ((X : Int) % (n : Int) + (i : Int))).tmod (n : Int)) := by
  rw [← ring_spelled X n i h0 hn hi]
  exact (wrap_same _).symm
theorem around_in (n d : Nat) (hn : n ≤ 1000) (hd : (d : Int) < 18446744073709551616) (w : World) :
    Calls Tryd.prog 25 #[.int .i64 (n : Int), .int .u64 (d : Int)] w fun e w' => e = .returned (.func (.func 39) #[] #[.pointer (some ⟨w.heap.size + 1, 0, none⟩), .pointer (some ⟨w.heap.size, 0, none⟩)]) ∧ w' = (w.alloc (.cells #[.int .u64 (d : Int)] 24)).alloc (.cells #[.int .u64 (n : Int)] 24) := by
  have hmf : ∀ (fn : Fn) (first cap : Array Value) (w : World), (Instr.makeFunc fn first cap).run Tryd.prog w = .ok (.func fn first cap) w := fun _ _ _ _ => rfl
  have hcv : ∀ w : World, (convert 3 24 (.int .i64 (n : Int))).run Tryd.prog w = .ok (.int .u64 (n : Int)) w := by
    have : IntKind.u64.wrap (n : Int) = (n : Int) := by rw [IntKind.wrap_u64]; omega
    intro w
    simp [convert, Conv.intToInt, this]
  go_enter Tryd.func25, Tryd.ntmps25
  go_wp2
  go_ret
  exact ⟨rfl, rfl⟩
set_option maxHeartbeats 8000000 in
theorem walk_in (m : Nat) (l Bn Bd n₀ n d : Nat) (hn : n ≤ 1000) (hd : (d : Int) < 18446744073709551616) (J Jx : List { x : Nat // x < n } → World → Prop)
    (B0 : Nat) (hJ : AbidesFrom B0 J)
    (hY : ∀ pre x W, J pre W → pre.length < n → YieldAt Fence.wide (m - 1) Tryd.prog l #[.int .i64 (x.1 : Int)] W fun e W' =>
      (e = .returned (.bool true) ∧ J (pre ++ [x]) W' ∧ Below n₀ W W') ∨ (e = .returned (.bool false) ∧ Jx (pre ++ [x]) W'))
    (W : World) (hBn : Bn < n₀) (hBd : Bd < n₀) (hcn : W.cell? ⟨Bn, 0, none⟩ = some (.int .u64 (n : Int))) (hcd : W.cell? ⟨Bd, 0, none⟩ = some (.int .u64 (d : Int))) (h0 : J [] W) :
    CallsIn Fence.wide m Tryd.prog 39 #[.func (.yield l) #[] #[], .pointer (some ⟨Bn, 0, none⟩), .pointer (some ⟨Bd, 0, none⟩)] W fun e W' => (∃ v, e = .returned v) ∧
      ((∃ ys, ys = ring n d ∧ J ys W') ∨ (∃ pre, pre <+: ring n d ∧ Jx pre W')) := by
  refine callsIn_of_wp Tryd.func39 rfl trivial ?_ rfl
  simp only [Tryd.ntmps39, List.size_toArray, List.length_cons, List.length_nil, Nat.reduceAdd, Nat.reduceSub, Array.replicate_succ, Array.replicate_zero, List.push_toArray, List.append_toArray, List.nil_append, List.cons_append]
  gi_wp2
  gi_loopw [4, 6] (fun _ v wr => ∃ k : Nat, k ≤ n ∧ v = .int .u64 (k : Int) ∧ J ((ring n d).take k) wr ∧ wr.cell? ⟨Bn, 0, none⟩ = some (.int .u64 (n : Int)) ∧ wr.cell? ⟨Bd, 0, none⟩ = some (.int .u64 (d : Int))) (fun _ v _ => n - (intOf v).toNat)
  case atStart =>
    exact ⟨0, Nat.zero_le _, rfl, h0, hcn, hcd⟩
  case round =>
    obtain ⟨k, hk, rfl, hj, hcn', hcd'⟩ := hrel
    by_cases hlt : k < n
    case neg =>
      have q : ¬ ((k : Int) < (n : Int)) := by omega
      gi_wp2
      go_end0
      exact ⟨⟨_, rfl⟩, .inl (by rwa [List.take_of_length_le (by rw [ring_len]; omega)] at hj)⟩
    have q : (k : Int) < (n : Int) := by omega
    obtain ⟨fn, tmps, assign, body, hy, hR⟩ := hY ((ring n d).take k) ⟨(d % n + k) % n, Nat.mod_lt _ (by omega)⟩ wr.drew (hJ _ _ _ none hj ⟨rfl, rfl, rfl, Nat.le_refl _, fun _ _ _ => rfl⟩ (fun r e => by cases e)) (by rw [List.length_take, ring_len]; omega)
    have hR : RoundIn Fence.wide (m - 1) Tryd.prog l fn tmps assign body wr.drew fun e W' => ∃ b, e = .returned (.bool b) ∧ ((b = true ∧ J ((ring n d).take (k + 1)) W' ∧ Below n₀ wr.drew W') ∨ (b = false ∧ Jx ((ring n d).take (k + 1)) W')) := hR.mono (by
      rw [ring_next hlt]
      rintro e W' (⟨rfl, h1, h2⟩ | ⟨rfl, h1⟩)
      · exact ⟨true, rfl, Or.inl ⟨rfl, h1, h2⟩⟩
      · exact ⟨false, rfl, Or.inr ⟨rfl, h1⟩⟩)
    rw [ring_wrap d n k (by omega) hn hlt] at hy
    have hn0 : (0 : Int) < (n : Int) := by omega
    clear hY hj hJ h0 hcn hcd hd
    have c1 : wr.drew.cell? ⟨Bn, 0, none⟩ = some (.int .u64 (n : Int)) := hcn'
    have c2 : wr.drew.cell? ⟨Bd, 0, none⟩ = some (.int .u64 (d : Int)) := hcd'
    gi_wp2
    have hm : Tryd.prog.follows .mixedOrders = true := by kernel_rfl
    gi_region_with_o (refine ⟨fun h => by simp [Fence.wide] at h, hR.mono ?_⟩; rintro e W' ⟨b, rfl, hp⟩)
    all_goals
      clear hR hy
      rcases hp with ⟨rfl, h1, h2⟩ | ⟨rfl, h1⟩
      · have c3 : W'.cell? ⟨Bn, 0, none⟩ = some (.int .u64 (n : Int)) := (h2.cell (p := ⟨Bn, 0, none⟩) hBn).trans c1
        have c4 : W'.cell? ⟨Bd, 0, none⟩ = some (.int .u64 (d : Int)) := (h2.cell (p := ⟨Bd, 0, none⟩) hBd).trans c2
        gi_wp2
        go_roundw
        case rel => exact ⟨k + 1, by omega, by go_num, h1, c3, c4⟩
        case measure => simp [intOf]; omega
      · gi_wp2
        refine bodyPost_ret (results_none rfl _ _ _) rfl ?_
        exact ⟨⟨_, rfl⟩, .inr ⟨_, List.take_prefix _ _, h1⟩⟩
/-- Where going round stops: the first of which P holds. -/
theorem ring_first {n d : Nat} {P : Nat → Bool} {q : List { x : Nat // x < n }} {x : { x : Nat // x < n }} (h : q ++ [x] <+: ring n d) (hq : ∀ y ∈ q, P y.1 = false) (hx : P x.1 = true) : Tr.first n (d % n) P = some x.1 := by
  have hl := h.length_le
  rw [ring_len, List.length_append, List.length_singleton] at hl
  have at_ : ∀ k (hk : k < (q ++ [x]).length), (q ++ [x])[k].1 = (d % n + k) % n := fun k hk => by
    rw [h.getElem hk]
    exact ring_at _
  have e := at_ q.length (by simp)
  rw [List.getElem_append_right (Nat.le_refl _)] at e
  simp only [Nat.sub_self, List.getElem_cons_zero] at e
  rw [e] at hx ⊢
  refine Tr.first_at (by omega) (fun k hk => ?_) hx
  have e2 := at_ k (by simp; omega)
  rw [List.getElem_append_left hk] at e2
  rw [← e2]
  exact hq _ (List.getElem_mem hk)
theorem ring_none {n d : Nat} {P : Nat → Bool} (hq : ∀ y ∈ ring n d, P y.1 = false) : Tr.first n (d % n) P = none := by
  refine Tr.first_end fun k hk => ?_
  have hl : k < (ring n d).length := by rw [ring_len]; exact hk
  rw [← ring_at hl]
  exact hq _ (List.getElem_mem hl)
theorem around_stops (m : Nat) (Bn Bd n₀ n d : Nat) (hn : n ≤ 1000) (hd : (d : Int) < 18446744073709551616) (w : World) (hBn : Bn < n₀) (hBd : Bd < n₀) (hn0 : n₀ ≤ w.heap.size)
    (hcn : w.cell? ⟨Bn, 0, none⟩ = some (.int .u64 (n : Int))) (hcd : w.cell? ⟨Bd, 0, none⟩ = some (.int .u64 (d : Int))) :
    SeqStopsK Fence.wide m Tryd.prog 39 #[.pointer (some ⟨Bn, 0, none⟩), .pointer (some ⟨Bd, 0, none⟩)] (fun x : { x : Nat // x < n } => #[Value.int .i64 (x.1 : Int)]) (Below n₀) (fun ys => ys = ring n d) (fun pre => pre <+: ring n d) n w := fun l J Jx W hW hJ _ hY h0 =>
  walk_in m l Bn Bd n₀ n d hn hd J Jx W.heap.size hJ hY W hBn hBd ((hW.cell (p := ⟨Bn, 0, none⟩) (show Bn < w.heap.size by omega)).trans hcn) ((hW.cell (p := ⟨Bd, 0, none⟩) (show Bd < w.heap.size by omega)).trans hcd) h0
end Go.Proofs.YtiogfkhmigbgpaaDoor
