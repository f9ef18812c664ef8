/-
  Powers of two, trees of digests, digests in a slice; the walks of Len64, Len, powerBelow.
-/
import Derived.Test.YtndiojiphoomgaaDoorHi
import Derived.Laws.MathBits
namespace Go.Proofs.YtndiojiphoomgaaDoor
open Go.RowKit
set_option maxRecDepth 100000 in
theorem len64_any (x : Nat) (w : World) (hx : x < 256) : Calls Tryd.prog 37 #[.int .u64 (x : Int)] w fun e w' => e = .returned (.int .i64 ((bitLen x : Nat) : Int)) ∧ w = w' := by
  have h1 : decide ((4294967296 : Int) ≤ (x : Int)) = false := by simp; omega
  have h2 : decide ((65536 : Int) ≤ (x : Int)) = false := by simp; omega
  have h3 : decide ((256 : Int) ≤ (x : Int)) = false := by simp; omega
  have h4 : (x : Int) < 256 := by omega
  go_enter Tryd.func37, Tryd.ntmps37
  go_wp2
  go_ret
  refine ⟨congrArg (fun n => Ending.returned (Value.int .i64 n)) ?_, rfl⟩
  have hb := bitLen_le8 x hx
  rw [len8tab_get]
  have e : wrap64 ((bitLen x : Nat) : Int) = ((bitLen x : Nat) : Int) := by unfold wrap64; omega
  rw [e, e]
theorem len_any (x : Nat) (w : World) (hx : x < 256) : Calls Tryd.prog 30 #[.int .u64 (x : Int)] w fun e w' => e = .returned (.int .i64 ((bitLen x : Nat) : Int)) ∧ w = w' := by
  go_enter Tryd.func30, Tryd.ntmps30
  go_wp2_with (go_at_call 37; refine (len64_any x _ hx).mono ?_; rintro e w' ⟨rfl, rfl⟩)
  go_ret
  exact ⟨rfl, rfl⟩
namespace Sm
/-- The greatest power of two below n, which is at least 2. -/
def pw (n : Nat) : Nat := 2 ^ (bitLen (n - 1) - 1)
end Sm
theorem pw_spec (n : Nat) (hn : 2 ≤ n) : 1 ≤ Sm.pw n ∧ Sm.pw n < n ∧ n ≤ 2 * Sm.pw n := by
  have h := bitLen_spec (n - 1)
  have h2 := h.2 (by omega)
  unfold Sm.pw
  have hb : 1 ≤ bitLen (n - 1) := by
    unfold bitLen
    rw [if_neg (by omega)]; omega
  have h3 : 2 ^ bitLen (n - 1) = 2 * 2 ^ (bitLen (n - 1) - 1) := by
    obtain ⟨k, hk⟩ : ∃ k, bitLen (n - 1) = k + 1 := ⟨bitLen (n - 1) - 1, by omega⟩
    rw [hk, Nat.add_sub_cancel, Nat.pow_succ]; omega
  have h4 : 0 < 2 ^ (bitLen (n - 1) - 1) := Nat.two_pow_pos _
  omega
theorem powerBelow_any (n : Nat) (w : World) (h2 : 2 ≤ n) (hn : n ≤ 200) : Calls Tryd.prog 22 #[.int .i64 (n : Int)] w fun e w' => e = .returned (.int .i64 ((Sm.pw n : Nat) : Int)) ∧ w = w' := by
  have hb := bitLen_le8 (n - 1) (by omega)
  have hb1 : 1 ≤ bitLen (n - 1) := by
    unfold bitLen
    rw [if_neg (by omega)]; omega
  obtain ⟨k, hk⟩ : ∃ k, bitLen (n - 1) = k + 1 := ⟨bitLen (n - 1) - 1, by omega⟩
  obtain ⟨m, hm⟩ : ∃ m, n = m + 1 := ⟨n - 1, by omega⟩
  have HK := Lib.hid hk
  have hk7 : k ≤ 7 := by omega
  have hp : Hid (Sm.pw n = 2 ^ k) := Lib.hid (by unfold Sm.pw; rw [hk]; rfl)
  subst hm
  clear hb hb1 hk
  go_enter Tryd.func22, Tryd.ntmps22
  go_wp2_with fail
  refine (len_any m _ (by omega)).mono ?_
  rintro e w' ⟨rfl, rfl⟩
  rw [show bitLen m = k + 1 from HK.out]
  have q0 : ((k + 1 : Nat) : Int) - 1 = (k : Int) := by omega
  go_wp2
  go_ret
  refine ⟨congrArg (fun n => Ending.returned (Value.int .i64 n)) ?_, rfl⟩
  rw [hp.out]
  have h : ∀ j : Fin 8, wrap64 ((2 : Int) ^ j.val) = ((2 ^ j.val : Nat) : Int) := by decide +kernel
  exact h ⟨k, by omega⟩
namespace Sm
def treeF : Nat → List (List Int) → List Int
  | 0, _ => []
  | f + 1, l => if l.length = 0 then dig [] else if l.length = 1 then l.getD 0 [] else dig (1 :: (treeF f (l.take (pw l.length)) ++ treeF f (l.drop (pw l.length))))
def tree (l : List (List Int)) : List Int := treeF (l.length + 1) l
end Sm
theorem treeF_more (f : Nat) : ∀ (f' : Nat) (l : List (List Int)), l.length < f → l.length < f' → Sm.treeF f l = Sm.treeF f' l := by
  induction f with
  | zero => intro f' l h; omega
  | succ f ih =>
    intro f' l h h'
    obtain ⟨g, rfl⟩ : ∃ g, f' = g + 1 := ⟨f' - 1, by omega⟩
    simp only [Sm.treeF]
    split
    · rfl
    · split
      · rfl
      · have hp := pw_spec l.length (by omega)
        rw [ih g _ (by rw [List.length_take]; omega) (by rw [List.length_take]; omega), ih g _ (by rw [List.length_drop]; omega) (by rw [List.length_drop]; omega)]
theorem tree_nil : Sm.tree [] = Sm.dig [] := rfl
theorem tree_one (x : List Int) : Sm.tree [x] = x := rfl
theorem tree_more (l : List (List Int)) (h : 2 ≤ l.length) : Sm.tree l = Sm.dig (1 :: (Sm.tree (l.take (Sm.pw l.length)) ++ Sm.tree (l.drop (Sm.pw l.length)))) := by
  have hp := pw_spec l.length h
  unfold Sm.tree
  conv => lhs; unfold Sm.treeF
  rw [if_neg (by omega), if_neg (by omega), treeF_more _ ((l.take (Sm.pw l.length)).length + 1) _ (by rw [List.length_take]; omega) (by omega), treeF_more l.length ((l.drop (Sm.pw l.length)).length + 1) _ (by rw [List.length_drop]; omega) (by omega)]
/-- A digest. -/
def Dig (d : List Int) : Prop := d.length = 32 ∧ Byt d
theorem dig_ok (l : List Int) : Dig (Sm.dig l) := ⟨dig_len l, byt_dig l⟩
theorem tree_ok (l : List (List Int)) (h : ∀ d ∈ l, Dig d) : Dig (Sm.tree l) := by
  by_cases h2 : 2 ≤ l.length
  · rw [tree_more l h2]; exact dig_ok _
  · match l, h, h2 with
    | [], _, _ => exact dig_ok _
    | [x], h, _ => exact h x (by simp)
    | _ :: _ :: _, _, h2 => simp at h2
/-- The slice a, n of digests holds ds. -/
def Digs (w : World) (S : Nat → Prop) (a : Option Addr) (n : Nat) (ds : List (List Int)) : Prop :=
  ds.length = n ∧ (∀ d ∈ ds, Dig d) ∧ (ds = [] ∨ ∃ b off, a = some ⟨b, off, none⟩ ∧ S b ∧ b < w.heap.size ∧ ∀ k, k < n → w.rangeAt b (off + k * 32) (nums (ds.getD k [])))
section
variable {w w' : World} {S S' : Nat → Prop} {a : Option Addr} {n : Nat} {ds : List (List Int)}
theorem Digs.keep (h : Digs w S a n ds) (hz : w.heap.size ≤ w'.heap.size) (hk : ∀ b, b < w.heap.size → S b → w'.heap[b]? = w.heap[b]?) : Digs w' S a n ds := by
  obtain ⟨h1, h2, h4⟩ := h
  refine ⟨h1, h2, ?_⟩
  rcases h4 with h | ⟨b, off, rfl, hs, hb, hc⟩
  · exact Or.inl h
  · refine Or.inr ⟨b, off, rfl, hs, by omega, fun k hk' j v hv => ?_⟩
    exact (World.cell?_of_block (w := w) (hk b hb hs)).trans (hc k hk' j v hv)
theorem Digs.weak (h : Digs w S a n ds) (hs : ∀ b, b < w.heap.size → S b → S' b) : Digs w S' a n ds := by
  obtain ⟨h1, h2, h4⟩ := h
  refine ⟨h1, h2, ?_⟩
  rcases h4 with h | ⟨b, off, rfl, hs', hb, hc⟩
  · exact Or.inl h
  · exact Or.inr ⟨b, off, rfl, hs b hb hs', hb, hc⟩
theorem Digs.old (h : Digs w S a n ds) : Digs w (fun b => b < w.heap.size) a n ds := h.weak fun _ hb _ => hb
theorem Digs.below {B : Nat} (h : Digs w S a n ds) (hb : Below B w w') (hs : ∀ b, b < w.heap.size → S b → b < B) : Digs w' S a n ds :=
  h.keep hb.size fun b hlt hS => hb.block b (hs b hlt hS)
theorem Digs.nil (w : World) (S : Nat → Prop) (a : Option Addr) : Digs w S a 0 [] := ⟨rfl, (fun d hd => by cases hd), Or.inl rfl⟩
theorem Digs.take (h : Digs w S a n ds) (k : Nat) (hk : k ≤ n) : Digs w S a k (ds.take k) := by
  obtain ⟨h1, h2, h4⟩ := h
  refine ⟨by rw [List.length_take]; omega, fun d hd => h2 d (List.mem_of_mem_take hd), ?_⟩
  rcases h4 with h | ⟨b, off, rfl, hs, hb, hc⟩
  · subst h; exact Or.inl (by simp)
  · refine Or.inr ⟨b, off, rfl, hs, hb, fun j hj => ?_⟩
    have e : (ds.take k).getD j [] = ds.getD j [] := by
      have : j < ds.length := by omega
      simp [hj]
    rw [e]
    exact hc j (by omega)
theorem Digs.drop (h : Digs w S a n ds) (k c : Nat) (hk : k < n) (hc : n ≤ c) : Digs w S (if c = k then a else a.map (·.add (k * 32))) (n - k) (ds.drop k) := by
  obtain ⟨h1, h2, h4⟩ := h
  refine ⟨by rw [List.length_drop]; omega, fun d hd => h2 d (List.mem_of_mem_drop hd), ?_⟩
  rcases h4 with h | ⟨b, off, rfl, hs, hb, hcc⟩
  · subst h; simp at h1; omega
  · refine Or.inr ⟨b, off + k * 32, ?_, hs, hb, fun j hj => ?_⟩
    · rw [if_neg (by omega)]
      simp [Addr.add_lit]
    · have e : (ds.drop k).getD j [] = ds.getD (k + j) [] := by simp
      rw [e, show off + k * 32 + j * 32 = off + (k + j) * 32 by omega]
      exact hcc (k + j) (by omega)
end
theorem sz_32 (w : World) : (sizeOf 24).run Tryd.prog w = .ok 32 w := by
  cases hq : Tryd.prog.info? 24 with
  | none => have := info32; rw [hq] at this; cases this
  | some i =>
    have := info32
    rw [hq] at this
    simp only [Option.map_some, Option.some.injEq] at this
    simp [sizeOf, typeInfo, hq, this]
theorem slice_lo {a : Option Addr} {n c k : Nat} (h1 : k ≤ n) (w : World) : (Instr.slice 29 (.slice a n c) (some (.int .i64 (k : Int))) none none).run Tryd.prog w = .ok (.slice (if c = k then a else a.map (·.add (k * 32))) (n - k) (c - k)) w := by
  have hb : (0 : Int) ≤ (k : Int) ∧ (k : Int) ≤ (n : Int) := by omega
  simp only [Instr.slice, Instr.sliceBounds, Instr.sliceBound, Sem.run_bind, Sem.run_pure, Result.andThen_ok, run_underlying Tryd.underlying29, asIntOf, if_pos hb, sz_32, Int.toNat_natCast]
theorem slice_hi {a : Option Addr} {n c k : Nat} (h1 : k ≤ c) (hc : 0 < c) (w : World) : (Instr.slice 29 (.slice a n c) none (some (.int .i64 (k : Int))) none).run Tryd.prog w = .ok (.slice a k c) w := by
  have hb : (0 : Int) ≤ (k : Int) ∧ (k : Int) ≤ (c : Int) := by omega
  have e : (if c = 0 then a else Option.map (fun x => x.add (0 * 32)) a) = a := by
    rw [if_neg (by omega)]
    cases a <;> simp [Addr.add]
  simp only [Instr.slice, Instr.sliceBounds, Instr.sliceBound, Sem.run_bind, Sem.run_pure, Result.andThen_ok, run_underlying Tryd.underlying29, asIntOf, if_pos hb, sz_32, Int.toNat_natCast, e, Nat.sub_zero]
end Go.Proofs.YtndiojiphoomgaaDoor
