/-
  The walk of canBeMet: no stage needs more nodes than have it.
-/
import Derived.Test.YtegdopbiiddamaaEc
import Derived.Deep.DeepCutAuto
import Derived.Deep.LoopGhost
import Derived.Deep.RegionHeld3
import Derived.StillTailTactics
import Derived.IntWalk
namespace Go.Proofs.Ytegdopbiiddamaa
set_option linter.unusedVariables false
set_option linter.unusedSimpArgs false
set_option maxRecDepth 20000
open Go.RowKit
/-- How many of the first k have each stage. -/
def cts (l : List Int) (k : Nat) : List Int := [Dr.cn l 0 k, Dr.cn l 1 k, Dr.cn l 2 k, Dr.cn l 3 k]
theorem cts_get (l : List Int) (k q : Nat) (h : q < 4) : (cts l k).getD q 0 = Dr.cn l (q : Int) k := by
  match q, h with
  | 0, _ => rfl
  | 1, _ => rfl
  | 2, _ => rfl
  | 3, _ => rfl
theorem cts_set (l : List Int) (k q : Nat) (h : q < 4) (x : Int) (hx : l.getD k 0 = (q : Int)) (e : x = Dr.cn l (q : Int) k + 1) : (ints (cts l k)).toArray.setIfInBounds q (.int .i64 x) = (ints (cts l (k + 1))).toArray := by
  subst e
  have e0 : ∀ s, Dr.cn l s (k + 1) = Dr.cn l s k + (if (q : Int) = s then 1 else 0) := fun s => by rw [← hx]; rfl
  match q, h with
  | 0, _ => simp [ints, cts, e0]
  | 1, _ => simp [ints, cts, e0]
  | 2, _ => simp [ints, cts, e0]
  | 3, _ => simp [ints, cts, e0]
theorem met_any {w : World} {S S' : Nat → Prop} {A A' : Option Addr} {n m n' m' : Nat} {st nd : List Int} (hs : Ns w S A n st) (hd : Ns w S' A' n' nd) (hN : n ≤ 1000) (h4 : n' ≤ 4)
    (hst : ∀ k, k < st.length → 0 ≤ st.getD k 0 ∧ st.getD k 0 < 4) :
    Calls Try.prog 68 #[.slice A' n' m', .slice A n m] w fun e w' => e = .returned (.bool (decide (∀ k, k < nd.length → 0 ≤ nd.getD k 0 ∧ nd.getD k 0 ≤ Dr.cn st (k : Int) st.length))) ∧ Below w.heap.size w w' := by
  obtain ⟨z, hbb⟩ : ∃ z : Bool, decide (∀ j, j < nd.length → 0 ≤ nd.getD j 0 ∧ nd.getD j 0 ≤ Dr.cn st (j : Int) st.length) = z := ⟨_, rfl⟩
  rw [hbb]
  have HBB := Lib.hid hbb
  clear hbb
  have HS := Lib.hid hs
  have HD := Lib.hid hd
  have HT : Hid (∀ k, k < n → 0 ≤ st.getD k 0 ∧ st.getD k 0 < 4) := Lib.hid (by rw [← hs.1]; exact hst)
  have hb := below_alloc w (.cells (ints (cts st 0)).toArray 90)
  have hw := Whole.new w 90 (ints (cts st 0)).toArray
  obtain ⟨w1, h1⟩ : ∃ w1, w.alloc (.cells (ints (cts st 0)).toArray 90) = w1 := ⟨_, rfl⟩
  rw [h1] at hb hw
  have HW := Lib.hid h1
  have H1 := Lib.hid (And.intro hw hb)
  clear hs hd hst hb hw h1
  go_enter Try.func68, Try.ntmps68
  go_upto_region 2 with fail
  rw [show w.alloc (.cells #[Value.int IntKind.i64 0, Value.int IntKind.i64 0, Value.int IntKind.i64 0, Value.int IntKind.i64 0] 90) = w1 from HW.out]
  go_wp2
  go_loopw [12] (fun i wr => ∃ k : Nat, i = .int .i64 (k : Int) ∧ k ≤ n ∧ Hid (Whole wr w.heap.size 90 (ints (cts st k)).toArray ∧ Below w.heap.size w wr)) (fun i _ => n - (intOf i).toNat)
  case atStart => exact ⟨0, rfl, Nat.zero_le _, H1⟩
  case round =>
    clear H1 HW
    obtain ⟨k, rfl, hk, HB⟩ := hrel
    by_cases hlt : k < n
    · have d1 : decide ((k : Int) < (n : Int)) = true := decide_eq_true (by omega)
      obtain ⟨b, off, rfl, _, hbw, hc⟩ := HS.out.cell hlt
      have ht := HT.out k hlt
      obtain ⟨q, hq⟩ := Int.eq_ofNat_of_zero_le ht.1
      rw [hq] at hc ht
      have hq4 : q < 4 := by omega
      have kc : wr.cell? ⟨b, off + k, none⟩ = some (.int .i64 (q : Int)) := (World.cell?_of_block (w := w) (HB.out.2.block b hbw)).trans hc
      obtain ⟨x, hx⟩ : ∃ x, Dr.cn st (q : Int) k = x := ⟨_, rfl⟩
      have x0 : 0 ≤ x := hx ▸ Dr.cn_lo _ _ _
      have x1 : x ≤ 1000 := by have := hx ▸ Dr.cn_hi st (q : Int) k; omega
      have kq : wr.cell? ⟨w.heap.size, q, none⟩ = some (.int .i64 x) := by rw [HB.out.1.cell, List.getElem?_toArray, ints_get _ _ (by simpa [cts] using hq4), cts_get _ _ _ hq4, hx]
      have fq : wr.frozen? ⟨w.heap.size, q, none⟩ = false := HB.out.1.frozen q
      have HQ := Lib.hid (And.intro hq hx)
      clear hc ht hq hx
      go_wp2
      exact ⟨⟨k + 1, rfl, by omega, Lib.hid ⟨by rw [← cts_set st k q hq4 (x + 1) HQ.out.1 (by rw [HQ.out.2])]; exact HB.out.1.set q _, HB.out.2.setCell (Nat.le_refl _) _⟩⟩, by simp [intOf]; omega⟩
    · have d1 : decide ((k : Int) < (n : Int)) = false := decide_eq_false (by omega)
      obtain rfl : k = n := by omega
      have hs1 := Lib.hid HS.out.1
      go_wp2
      go_loopw [4, 24] (fun f i w' => ∃ j : Nat, f = .bool false ∧ i = .int .i64 (j : Int) ∧ j ≤ n' ∧ w' = wr ∧ Hid (∀ i, i < j → 0 ≤ nd.getD i 0 ∧ nd.getD i 0 ≤ Dr.cn st (i : Int) st.length)) (fun _ i _ => n' - (intOf i).toNat)
      case atStart => exact ⟨0, rfl, rfl, Nat.zero_le _, rfl, Lib.hid (fun i hi => by omega)⟩
      case round =>
        obtain ⟨j, rfl, rfl, hj, rfl, HM⟩ := hrel
        by_cases hjl : j < n'
        · have d2 : decide ((j : Int) < (n' : Int)) = true := decide_eq_true (by omega)
          obtain ⟨b', off, rfl, _, hbw, hc⟩ := HD.out.cell hjl
          obtain ⟨y, hy⟩ : ∃ y, nd.getD j 0 = y := ⟨_, rfl⟩
          rw [hy] at hc
          have kc : wr.cell? ⟨b', off + j, none⟩ = some (.int .i64 y) := (World.cell?_of_block (w := w) (HB.out.2.block b' hbw)).trans hc
          obtain ⟨x, hx⟩ : ∃ x, Dr.cn st (j : Int) k = x := ⟨_, rfl⟩
          have hj4 : j < 4 := by omega
          have kq : wr.cell? ⟨w.heap.size, j, none⟩ = some (.int .i64 x) := by rw [HB.out.1.cell, List.getElem?_toArray, ints_get _ _ (by simpa [cts] using hj4), cts_get _ _ _ hj4, hx]
          have HQ := Lib.hid (And.intro hy (hs1.out ▸ hx : Dr.cn st (j : Int) st.length = x))
          clear hc hy hx
          by_cases hin : 0 ≤ y ∧ y ≤ x
          · go_wp2_with (go_at_call 57; refine (within_any _ _ _ _).mono ?_; rintro e w' ⟨rfl, rfl⟩; rw [decide_eq_true hin])
            have HM' : Hid (∀ i, i < j + 1 → 0 ≤ nd.getD i 0 ∧ nd.getD i 0 ≤ Dr.cn st (i : Int) st.length) := Lib.hid fun i hi => by
              by_cases e : i = j
              · subst e; rw [HQ.out.1, HQ.out.2]; exact hin
              · exact HM.out i (by omega)
            go_roundw
            case rel => exact ⟨j + 1, rfl, by go_num, by omega, by first | rfl | trivial, HM'⟩
            case measure => simp [intOf]; omega
          · go_wp2_with (go_at_call 57; refine (within_any _ _ _ _).mono ?_; rintro e w' ⟨rfl, rfl⟩; rw [decide_eq_false hin])
            go_ret
            refine ⟨ret_bool (Eq.trans (decide_eq_false fun h => hin ?_).symm HBB.out), HB.out.2⟩
            have := h j (by rw [HD.out.1]; exact hjl)
            rw [HQ.out.1, HQ.out.2] at this
            exact this
        · have d2 : decide ((j : Int) < (n' : Int)) = false := decide_eq_false (by omega)
          have HE := Lib.hid (show z = true from HBB.out.symm.trans (decide_eq_true fun i hi => HM.out i (by rw [HD.out.1] at hi; omega)))
          go_wp2
          go_ret
          exact ⟨ret_bool HE.out.symm, HB.out.2⟩
end Go.Proofs.Ytegdopbiiddamaa
