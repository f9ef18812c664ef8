/-
  The walks of the statements that take a list of words: the means.
-/
import Derived.Test.YtambmendeomknaaLb
import Derived.OpenShut
import Derived.Deep.AppendLies
namespace Go.Proofs.Ytambmendeomknaa
open Go.RowKit

set_option maxRecDepth 100000 in
set_option maxHeartbeats 1000000 in
theorem awake_bl (w : World) :
    Calls Try.prog 9 #[] w fun e w' => e = .returned (.bool true) ∧ Below w.heap.size w w' := by
  have he := ext_bits 4607182418800017408
  have f1 := feq_one
  have f2 := feq_half
  go_enter Try.func9, Try.ntmps9
  go_wp2_with (go_at_call 22; refine (of_any _ _).mono ?_; rintro e w' ⟨rfl, rfl⟩)
  refine (kind_lit 9223372036854775808 3 _ (by decide) (by decide)).mono ?_; rintro e w' ⟨rfl, rfl⟩
  go_wp2_with fail
  refine (kind_lit 0 4 _ (by decide) (by decide)).mono ?_; rintro e w' ⟨rfl, rfl⟩
  go_wp2_with fail
  refine (order_lit 9223372036854775808 0 (-1) _ (by decide) (by decide) (by decide)).mono ?_; rintro e w' ⟨rfl, rfl⟩
  go_wp2_with fail
  refine (clean_lit 9221120237041090561 0 _ (by decide)).mono ?_; rintro e w' ⟨rfl, rfl⟩
  go_wp2_with fail
  refine (bits_lit 0 0 0 _ (by decide) rfl).mono ?_; rintro e w' ⟨rfl, rfl⟩
  go_wp2_with fail
  refine (kind_lit 9221120237041090561 0 _ (by decide) (by decide)).mono ?_; rintro e w' ⟨rfl, rfl⟩
  go_wp2_with fail
  refine (clean_lit 9218868437227405312 4607182418800017408 _ (by decide)).mono ?_; rintro e w' ⟨rfl, rfl⟩
  go_wp2_with fail
  refine (points_lit 4602678819172646912 500 500 _ (by decide) points_half rfl).mono ?_; rintro e w' ⟨rfl, rfl⟩
  go_wp2_with fail
  refine (head_row _ _ ?_ ?_ ?_).mono ?_
  · simp
  · simp
  · simp
  rintro e w' ⟨rfl, rfl⟩
  go_wp2_with fail
  refine (bits_lit 4607182418800017408 4607182418800017408 4607182418800017408 _ (by decide) rfl).mono ?_; rintro e w' ⟨rfl, rfl⟩
  go_wp2
  go_ret
  exact ⟨rfl, (Below.refl _ _).alloc (Nat.le_refl _) _⟩


def fl (l : List Nat) : List Value := l.map (Value.float .f64)
theorem info_float : (Try.prog.info? 24).map (fun i => (i.zero, i.size, i.bytes)) = some (some (.float .f64 0), 1, 8) := by kernel_rfl

theorem own_row {w : World} {base : Nat} {v : Value} {l : List Nat} (h : w.ownsRow base 24 1 v l.length (fl l)) (hn : l.length ≠ 0) :
    ∃ g cap, v = .slice (some ⟨g, 0, none⟩) l.length cap ∧ ∀ k, k < l.length → w.cell? ⟨g, 0 + k, none⟩ = some (.float .f64 (l.getD k 0)) := by
  obtain ⟨g, cap, rfl, _, _⟩ := h.form (by omega)
  refine ⟨g, cap, rfl, fun k hk => ?_⟩
  rw [Nat.zero_add, h.cellAt k (by omega)]
  simp [fl, hk]
theorem own_nil {w : World} {base : Nat} {v : Value} {l : List Nat} (h : w.ownsRow base 24 1 v l.length (fl l)) (hn : l.length = 0) : ∃ a cap, v = .slice a 0 cap := by
  rcases h.2 with ⟨rfl, _⟩ | ⟨g, cap, _, rfl, _⟩
  · exact ⟨_, _, rfl⟩
  · exact ⟨_, _, by rw [hn]⟩

theorem mean_own {w : World} {base : Nat} {v : Value} {l : List Nat} (h : w.ownsRow base 24 1 v l.length (fl l)) (hb : ∀ x ∈ l, x < 18446744073709551616) (hl : l.length ≤ 1000) :
    Calls Try.prog 23 #[v] w fun e w' => e = .returned (.float .f64 (Fl.meanOf l)) ∧ w = w' := by
  by_cases h0 : l.length = 0
  · obtain ⟨a, cap, rfl⟩ := own_nil h h0
    have : l = [] := List.eq_nil_of_length_eq_zero h0
    subst this
    exact mean_nil a cap w
  · obtain ⟨g, cap, rfl, hc⟩ := own_row h h0
    exact mean_row g 0 cap _ l w rfl hb hl h0 hc
theorem rmean_own {w : World} {base : Nat} {v : Value} {l : List Nat} (h : w.ownsRow base 24 1 v l.length (fl l)) (hb : ∀ x ∈ l, x < 18446744073709551616) (hl : l.length ≤ 1000) :
    Calls Try.prog 24 #[v] w fun e w' => e = .returned (.float .f64 (Fl.meanOf l)) ∧ w = w' := by
  by_cases h0 : l.length = 0
  · obtain ⟨a, cap, rfl⟩ := own_nil h h0
    have : l = [] := List.eq_nil_of_length_eq_zero h0
    subst this
    exact rmean_nil a cap w
  · obtain ⟨g, cap, rfl, hc⟩ := own_row h h0
    exact rmean_row g 0 cap _ l w rfl hb hl h0 hc

/-- What came in: nil, or a row of words. -/
def Row (k : IntKind) (w : World) (a : Option Addr) (len cap : Nat) (zs : List Int) : Prop :=
  (a = none ∧ len = 0 ∧ cap = 0 ∧ zs = []) ∨
  ∃ x, a = some x ∧ len ≤ cap ∧ cap ≤ maxLen ∧ zs.length = cap ∧ (∀ i, i < zs.length → w.cell? (x.add i) = some (.int k (zs.getD i 0))) ∧ ∀ n ∈ zs, (Lit.int k n).wf = true

theorem lt_of_cell {w : World} {b o : Nat} {v : Value} (h : w.cell? ⟨b, o, none⟩ = some v) : b < w.heap.size := by
  apply Decidable.byContradiction
  intro hb
  have : w.heap[b]? = none := Array.getElem?_eq_none (by omega)
  simp [World.cell?, this] at h

/-- The row as a list of words: empty, or it begins at an address below the heap's end. -/
theorem row_words {w : World} {a : Option Addr} {len cap : Nat} {zs : List Int} (h : Row .u64 w a len cap zs) :
    ∃ l : List Nat, l.length = len ∧ (∀ x ∈ l, x < 18446744073709551616) ∧
      (len = 0 ∨ ∃ b off, a = some ⟨b, off, none⟩ ∧ b < w.heap.size ∧ ∀ k, k < len → w.cell? ⟨b, off + k, none⟩ = some (.int .u64 ((l.getD k 0 : Nat) : Int))) := by
  rcases h with ⟨_, h0, _, _⟩ | ⟨x, rfl, hle, _, hz, hc, hw⟩
  · exact ⟨[], by simp [h0], by simp, Or.inl h0⟩
  · refine ⟨(zs.take len).map Int.toNat, by simp; omega, ?_, ?_⟩
    · intro y hy
      obtain ⟨n, hn, rfl⟩ := List.mem_map.1 hy
      obtain ⟨m, rfl, hm⟩ := u64_nat (hw n (List.mem_of_mem_take hn))
      simpa using hm
    · by_cases h0 : len = 0
      · exact Or.inl h0
      · obtain ⟨b, off, rfl, hc'⟩ := ints_at hc (by omega)
        refine Or.inr ⟨b, off, rfl, lt_of_cell (hc' 0 (by omega)), fun k hk => ?_⟩
        rw [hc' k (by omega)]
        have hk' : k < zs.length := by omega
        obtain ⟨m, hm, _⟩ := u64_nat (hw (zs[k]) (List.getElem_mem hk'))
        simp [hk', hk, hm]

end Go.Proofs.Ytambmendeomknaa
