/-
  Rows of bools, rows of such rows, and images, that came in.
-/
import Derived.Test.YtiogfkhmigbgpaaDoorXl
import Derived.Deep.Grids
namespace Go.Proofs.YtiogfkhmigbgpaaDoor
set_option linter.unusedVariables false
set_option linter.unusedSimpArgs false
set_option maxRecDepth 20000
open Go.ChangeShapes Go.WideShapes Go.RowKit Go.Deep
section
variable {H : Type} {enc : TypeId × Value → H} {w : World}
theorem u64_in {n : Int} (h : (Lit.int .u64 n).wf = true) : 0 ≤ n ∧ n < 18446744073709551616 := by
  simp [Lit.wf, IntKind.min, IntKind.max, IntKind.signed, IntKind.bits] at h
  omega
theorem be_of {b off n : Nat} {spot : Option Nat} {B : Nat → Bool} (hn : 0 < n) (hc : ∀ i, i < n → w.cell? ((⟨b, off, spot⟩ : Addr).add i) = some (.bool (B i))) : spot = none ∧ BE.Row w (· < w.heap.size) (some ⟨b, off, none⟩) n ((List.range n).map B) := by
  have h0 := hc 0 hn
  have hspot : spot = none := by simpa [Addr.add] using World.cell?_spot h0
  subst hspot
  have hlt : b < w.heap.size := World.block_lt_of_cell? w _ h0
  refine ⟨rfl, be_row (by simp) hlt hlt (fun k hk => ?_)⟩
  have := hc k hk
  rw [Addr.add_lit] at this
  rw [this]
  simp [hk]
theorem open_bs {m : Nat} {a : Option Addr} {len cap : Nat} {x : DataW H × List MemPlace} (h : DataW.trod enc Tryd.prog w 0 (fun _ => true) true m 22 [.slice a len cap] = some x) : ∃ l, BE.Row w (· < w.heap.size) a len l ∧ len ≤ cap := by
  rcases open_bools Tryd.underlying22 Tryd.underlying4 (by kernel_rfl) h with ⟨hcs, _⟩ | ⟨ad, l, c, B, hcs, _, hl, hm, _, hcell⟩
  · injection hcs with hcs _
    injection hcs with e1 e2 e3
    subst e1 e2 e3
    exact ⟨[], Elem.Row.nil _ _ _, Nat.le_refl _⟩
  · injection hcs with hcs _
    injection hcs with e1 e2 e3
    subst e1 e2 e3
    by_cases h0 : len = 0
    · subst h0
      exact ⟨[], Elem.Row.nil _ _ _, hl⟩
    · obtain ⟨b, off, spot⟩ := ad
      obtain ⟨rfl, hr⟩ := be_of (n := len) (by omega) (fun i hi => hcell i (by omega))
      exact ⟨_, hr, hl⟩
theorem open_bnss {m : Nat} {a : Option Addr} {len cap : Nat} {x : DataW H × List MemPlace} (h : DataW.trod enc Tryd.prog w 0 (fun _ => true) true m 23 [.slice a len cap] = some x) : ∃ l, Bns w (· < w.heap.size) a len l := by
  rcases open_bool_rows Tryd.underlying23 Tryd.underlying22 Tryd.underlying4 (by kernel_rfl) (by kernel_rfl) h with ⟨hcs, _⟩ | ⟨ad, l, c, A, L, C, B, hcs, _, hl, hm, _, hcell⟩
  · injection hcs with hcs _
    injection hcs with e1 e2 e3
    subst e1 e2 e3
    exact ⟨[], rfl, Or.inl rfl⟩
  · injection hcs with hcs _
    injection hcs with e1 e2 e3
    subst e1 e2 e3
    by_cases h0 : len = 0
    · subst h0
      exact ⟨[], rfl, Or.inl rfl⟩
    · obtain ⟨b, off, spot⟩ := ad
      have hc0 := (hcell 0 (by omega)).1
      have hspot : spot = none := by simpa [Addr.add] using World.cell?_spot hc0
      subst hspot
      have hlt : b < w.heap.size := World.block_lt_of_cell? w _ hc0
      have key : ∀ k, k < len → ∃ r : List Bool, ∃ ad m c, w.cell? ⟨b, off + k, none⟩ = some (.slice ad m c) ∧ BE.Row w (· < w.heap.size) ad m r := fun k hk => by
        obtain ⟨h1, h2, h3, h4, h5⟩ := hcell k (by omega)
        rw [Addr.add_lit] at h1
        by_cases hL : L k = 0
        · exact ⟨[], A k, L k, C k, h1, by rw [hL]; exact Elem.Row.nil _ _ _⟩
        · cases hA : A k with
          | none => have := h4 hA; omega
          | some a' =>
            obtain ⟨b', off', spot'⟩ := a'
            obtain ⟨rfl, hr⟩ := be_of (n := L k) (by omega) (fun i hi => (h5 _ hA).2 i (by omega))
            exact ⟨_, A k, L k, C k, h1, by rw [hA]; exact hr⟩
      obtain ⟨f, hf⟩ := choose_lt (α := List Bool) (n := len) (p := fun k r => ∃ ad m c, w.cell? ⟨b, off + k, none⟩ = some (.slice ad m c) ∧ BE.Row w (· < w.heap.size) ad m r) key
      refine ⟨(List.range len).map f, by simp, Or.inr ⟨b, off, rfl, hlt, hlt, fun k hk => ?_⟩⟩
      have e : ((List.range len).map f).getD k [] = f k := by simp [hk]
      rw [e]
      exact hf k hk
theorem open_img {m : Nat} {a : Option Addr} {len cap : Nat} {x : DataW H × List MemPlace} (h : DataW.trod enc Tryd.prog w 0 (fun _ => true) true m 35 [.slice a len cap] = some x) : ∃ l, Txt w (· < w.heap.size) a len cap l ∧ len ≤ 9223372036854775807 := by
  obtain ⟨a', n', c', l, e, ht⟩ := open_txt h
  injection e with e1 e2 e3
  subst e1 e2 e3
  refine ⟨l, ht, ?_⟩
  rcases open_ints Tryd.underlying35 Tryd.underlying5 (by kernel_rfl) h with ⟨hcs, _⟩ | ⟨x, l', c, zs, hcs, _, hl, hm, hz, _, hcell, hwz⟩
  · injection hcs with hcs _
    injection hcs with e1 e2 e3
    omega
  · injection hcs with hcs _
    injection hcs with e1 e2 e3
    unfold maxLen at hm
    omega
end
end Go.Proofs.YtiogfkhmigbgpaaDoor
