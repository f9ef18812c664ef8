/-
  Rows of rows of numbers, and bytes, that came in.
-/
import Derived.Test.YtegdopbiiddamaaSe
import Derived.Test.YtegdopbiiddamaaEo
namespace Go.Proofs.Ytegdopbiiddamaa
set_option linter.unusedVariables false
set_option linter.unusedSimpArgs false
set_option maxRecDepth 20000
open Go.ChangeShapes Go.WideShapes Go.RowKit Go.Deep
section
variable {H : Type} {enc : TypeId × Value → H} {w : World}
theorem open_bytes {m : Nat} {a : Option Addr} {len cap : Nat} {x : DataW H × List MemPlace} (h : DataW.trod enc Try.prog w 0 (fun _ => true) true m 40 [.slice a len cap] = some x) : ∃ l, Txt w (· < w.heap.size) a len cap l := by
  rcases open_ints Try.underlying40 Try.underlying5 (by kernel_rfl) h with ⟨hcs, _⟩ | ⟨x, l, c, zs, hcs, _, hl, hm, hz, _, hcell, hwz⟩
  · injection hcs with hcs _
    injection hcs with e1 e2 e3
    subst e1 e2 e3
    exact ⟨[], Txt.nil _ _ _ _⟩
  · injection hcs with hcs _
    injection hcs with e1 e2 e3
    subst e1 e2 e3
    have hz' : zs.length = cap := by simpa using hz
    by_cases h0 : len = 0
    · subst h0
      exact ⟨[], Txt.nil _ _ _ _⟩
    · obtain ⟨b, off, rfl, hc'⟩ := ints_at hcell (by omega)
      refine ⟨zs.take len, by simp; omega, hl, fun y hy => ?_, Or.inr ⟨b, off, rfl, World.block_lt_of_cell? w _ (hc' 0 (by omega)), World.block_lt_of_cell? w _ (hc' 0 (by omega)), fun k hk => ?_⟩⟩
      · exact u8_in (hwz y (List.mem_of_mem_take hy))
      · rw [hc' k (by omega)]
        have hk' : k < zs.length := by omega
        simp [hk', hk]
theorem open_gns {m : Nat} {a : Option Addr} {len cap : Nat} {x : DataW H × List MemPlace} (h : DataW.trod enc Try.prog w 0 (fun _ => true) true m 39 [.slice a len cap] = some x) : ∃ l, Gns w (· < w.heap.size) a len l := by
  have kk : Try.prog.cellsOf 22 = 1 := by kernel_rfl
  rcases open_slice Try.underlying39 h with ⟨hcs, _⟩ | ⟨ad, l, c, m', n, D, Pl, hcs, _, hl, hcap, hm, _, hi⟩
  · injection hcs with hcs _
    injection hcs with e1 e2 e3
    subst e1 e2 e3
    exact ⟨[], rfl, Or.inl rfl⟩
  · injection hcs with hcs _
    injection hcs with e1 e2 e3
    subst e1 e2 e3
    have hm' : m' = cap := by simpa using hm
    subst hm'
    rw [kk] at hi
    by_cases h0 : len = 0
    · subst h0
      exact ⟨[], rfl, Or.inl rfl⟩
    · obtain ⟨b, off, spot⟩ := ad
      have one : ∀ i, i < len → ∃ (v : Value) (r : List Int), w.cell? ((((⟨b, off, spot⟩ : Addr).add (i * 1)).add 0)) = some v ∧ ∃ a' n' c', v = .slice a' n' c' ∧ Ns w (· < w.heap.size) a' n' r := fun i hlt => by
        obtain ⟨cs', h1, h2⟩ := hi i (by omega)
        obtain ⟨_, hln, hat⟩ := World.cells?_some h1
        have hl1 : cs'.length = 1 := by simpa using hln
        obtain ⟨v, rfl⟩ : ∃ v, cs' = [v] := by
          match cs', hl1 with
          | [v], _ => exact ⟨v, rfl⟩
        obtain ⟨a', n', c', r, e, _, _, hr⟩ := open_row h2
        exact ⟨v, r, hat 0 (by omega), a', n', c', e, hr⟩
      have hspot : spot = none := by
        obtain ⟨v, r, h3, _⟩ := one 0 (by omega)
        simpa [Addr.add] using World.cell?_spot h3
      subst hspot
      have key : ∀ i, i < len → ∃ r : List Int, ∃ ad m c, w.cell? ⟨b, off + i, none⟩ = some (.slice ad m c) ∧ Ns w (· < w.heap.size) ad m r := fun i hlt => by
        obtain ⟨v, r, h3, a', n', c', e, hr⟩ := one i hlt
        rw [Addr.add_lit, Addr.add_lit, Nat.mul_one, Nat.add_zero, e] at h3
        exact ⟨r, a', n', c', h3, hr⟩
      obtain ⟨f, hf⟩ := choose_lt (α := (List Int)) (n := len) (p := fun i r => ∃ ad m c, w.cell? ⟨b, off + i, none⟩ = some (.slice ad m c) ∧ Ns w (· < w.heap.size) ad m r) key
      obtain ⟨_, _, _, h0c, _⟩ := hf 0 (by omega)
      refine ⟨(List.range len).map f, by simp, Or.inr ⟨b, off, rfl, World.block_lt_of_cell? w _ h0c, World.block_lt_of_cell? w _ h0c, fun k hk => ?_⟩⟩
      have e : ((List.range len).map f).getD k [] = f k := by simp [hk]
      rw [e]
      exact hf k hk
end
end Go.Proofs.Ytegdopbiiddamaa
