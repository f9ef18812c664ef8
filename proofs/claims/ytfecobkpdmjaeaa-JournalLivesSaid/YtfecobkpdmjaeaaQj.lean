/-
  The walks of blocksOf, Clip, Clone, Records.
-/
import Derived.Test.YtfecobkpdmjaeaaQi
import Derived.ArgAppend
namespace Go.Proofs.Ytfecobkpdmjaeaa
open Go.RowKit
set_option linter.unusedVariables false
set_option linter.unusedSimpArgs false
set_option maxRecDepth 20000
theorem blocksOf_any {a : Option Addr} {n c : Nat} {z : Int} {w : World} : Calls Try.prog 39 #[.slice a n c, .int .i64 z] w fun e w' =>
    e = .returned (.func (Fn.func 55) #[] #[.pointer (some ⟨w.heap.size + 1, 0, none⟩), .pointer (some ⟨w.heap.size, 0, none⟩)]) ∧ w' = (w.alloc (.cells #[.int .i64 z] 2)).alloc (.cells #[.slice a n c] 37) := by
  have hmf : ∀ (fn : Fn) (first cap : Array Value) (w : World), (Instr.makeFunc fn first cap).run Try.prog w = .ok (.func fn first cap) w := fun _ _ _ _ => rfl
  go_enter Try.func39, Try.ntmps39
  go_wp2
  go_ret
  exact ⟨by simp, rfl⟩
theorem clip_any {a : Option Addr} {n c : Nat} {w : World} (h : n ≤ c) (hc : c ≤ maxLen) (ha : a = none → c = 0) : Calls Try.prog 40 #[.slice a n c] w fun e w' => e = .returned (.slice a n n) ∧ w = w' := by
  unfold maxLen at hc
  go_enter Try.func40, Try.ntmps40
  go_wp2
  go_ret
  exact ⟨by simp, rfl⟩
theorem nil_yes (n c : Nat) (w : World) : (binOp .eql 37 (.slice none n c) (.slice none 0 0)).run Try.prog w = .ok (.bool true) w := by kernel_rfl
theorem nil_no (ad : Addr) (n c : Nat) (w : World) : (binOp .eql 37 (.slice (some ad) n c) (.slice none 0 0)).run Try.prog w = .ok (.bool false) w := by kernel_rfl
set_option maxHeartbeats 4000000 in
theorem clone_any {S : Nat → Prop} {a : Option Addr} {n c : Nat} {r : List Int} {w : World} (h : Txt w S a n c r) (hn : n ≤ 1000000) : Calls Try.prog 41 #[.slice a n c] w fun e w' => ∃ v, e = .returned v ∧ RowU w' w.heap.size v r ∧ Below w.heap.size w w' := by
  cases a with
  | none =>
    have hr : r = [] := by
      rcases h.2.2.2 with h | ⟨b, off, h, _⟩
      · exact h
      · cases h
    subst hr
    have hq := nil_yes n c
    clear h
    go_enter Try.func41, Try.ntmps41
    go_wp2
    go_ret
    exact ⟨_, rfl, RowU.nil _ _, Below.refl _ _⟩
  | some ad =>
    have hb1 := below_alloc w (.cells #[] 5)
    have HT := Lib.hid (And.intro (h.keep (w' := w.alloc (.cells #[] 5)) (by simp) (fun b hb _ => Below.heap_alloc w _ b hb)) (And.intro hb1 (And.intro (World.ownsRow_made w (e := 5) (base := w.heap.size) (size := 1) #[] 0 (Nat.le_refl _) (Nat.zero_le _) rfl) h.2.2.1)))
    have hsz := hb1.size
    have HL : Hid (r.length = n) := Lib.hid h.1
    obtain ⟨iu, hu1, hu2, hu3, hu4⟩ := info_parts u8_info
    have HU := Lib.hid (And.intro hu1 (And.intro hu2 (And.intro hu3 hu4)))
    clear h hb1 hu1 hu2 hu3 hu4
    have hq := nil_no ad n c
    go_enter Try.func41, Try.ntmps41
    go_wp2_with (first | (at_builtin; refine wpList_append_txt _ rfl (.tmp 5) (.tmp 6) 37 rfl w.heap.size 5 iu (.int .u8 0) 1 Try.underlying37 HU.out.1 HU.out.2.1 HU.out.2.2.1 HU.out.2.2.2 rfl _ 0 [] rfl HT.out.2.2.1 S (some ad) n c r rfl HT.out.1 (by unfold maxLen; omega) (by omega) hsz ?_; intro v6 w6 ho6 hg6 hf6) | fail)
    go_ret
    refine ⟨_, rfl, ⟨?_, HT.out.2.2.2⟩, below_own HT.out.2.1 hsz hg6 (fun q hq => (row_block HT.out.2.2.1 hq).choose_spec.1)⟩
    rw [HL.out]
    have := ho6
    rw [Nat.zero_add, List.nil_append] at this
    exact this
/-- The slice a, n of texts holds ps; all of it in blocks of S. -/
def Parts (w : World) (S : Nat → Prop) (a : Option Addr) (n : Nat) (ps : List (List Int)) : Prop :=
  ps.length = n ∧ (ps = [] ∨ ∃ b off, a = some ⟨b, off, none⟩ ∧ S b ∧ b < w.heap.size ∧ ∀ k, k < n → ∃ a' n' c', w.cell? ⟨b, off + k, none⟩ = some (.slice a' n' c') ∧ Txt w S a' n' c' (ps.getD k []))
theorem Parts.keep {w w' : World} {S : Nat → Prop} {a : Option Addr} {n : Nat} {ps : List (List Int)} (h : Parts w S a n ps) (hz : w.heap.size ≤ w'.heap.size) (hk : ∀ b, b < w.heap.size → S b → w'.heap[b]? = w.heap[b]?) : Parts w' S a n ps := by
  refine ⟨h.1, ?_⟩
  rcases h.2 with h0 | ⟨b, off, rfl, hS, hb, hc⟩
  · exact Or.inl h0
  · refine Or.inr ⟨b, off, rfl, hS, by omega, fun k hk' => ?_⟩
    obtain ⟨a', n', c', h1, h2⟩ := hc k hk'
    exact ⟨a', n', c', (World.cell?_of_block (hk b hb hS)).trans h1, h2.keep hz hk⟩
theorem Parts.weak {w : World} {S S' : Nat → Prop} {a : Option Addr} {n : Nat} {ps : List (List Int)} (h : Parts w S a n ps) (hs : ∀ b, b < w.heap.size → S b → S' b) : Parts w S' a n ps := by
  refine ⟨h.1, ?_⟩
  rcases h.2 with h0 | ⟨b, off, rfl, hS, hb, hc⟩
  · exact Or.inl h0
  · refine Or.inr ⟨b, off, rfl, hs b hb hS, hb, fun k hk' => ?_⟩
    obtain ⟨a', n', c', h1, h2⟩ := hc k hk'
    exact ⟨a', n', c', h1, h2.weak hs⟩
theorem Parts.below {w w' : World} {S : Nat → Prop} {a : Option Addr} {n : Nat} {ps : List (List Int)} (h : Parts w S a n ps) (hb : Below w.heap.size w w') : Parts w' S a n ps := h.keep hb.size (fun b hb' _ => hb.block b hb')
theorem Parts.at_ {w : World} {S : Nat → Prop} {a : Option Addr} {n : Nat} {ps : List (List Int)} (h : Parts w S a n ps) {k : Nat} (hk : k < n) : ∃ b off a' n' c', a = some ⟨b, off, none⟩ ∧ S b ∧ b < w.heap.size ∧ w.cell? ⟨b, off + k, none⟩ = some (.slice a' n' c') ∧ Txt w S a' n' c' (ps.getD k []) := by
  rcases h.2 with h0 | ⟨b, off, rfl, hS, hb, hc⟩
  · have := h.1; rw [h0] at this; simp at this; omega
  · obtain ⟨a', n', c', h1, h2⟩ := hc k hk
    exact ⟨b, off, a', n', c', rfl, hS, hb, h1, h2⟩
theorem Recs.parts {w : World} {B : Nat} {v : Value} {L : List (List Int)} (h : Recs w B v L) : ∃ q c, v = .slice q L.length c ∧ Parts w (B ≤ ·) q L.length L := by
  obtain ⟨vs, h1, h2⟩ := h
  rcases h1.2 with ⟨rfl, h0⟩ | ⟨g, cap, cur, rfl, hB, hg, hnc, hcm, hcs, hct⟩
  · exact ⟨none, 0, by rw [h0], rfl, Or.inl (List.eq_nil_of_length_eq_zero h0)⟩
  · refine ⟨_, _, rfl, rfl, Or.inr ⟨g, 0, rfl, hB, (Array.getElem?_eq_some_iff.1 hg).1, fun k hk => ?_⟩⟩
    obtain ⟨u, hu, hr⟩ := h2 k (L.getD k []) (by simp [List.getD, hk])
    obtain ⟨a', c', rfl, _, ht⟩ := hr.form
    exact ⟨a', _, c', by have := h1.cells (g := g) rfl k _ hu; rw [Addr.add_lit] at this; exact this, ht⟩
/-- Short records. -/
def Short (L : List (List Int)) : Prop := L.length ≤ 100000 ∧ ∀ l ∈ L, l.length ≤ 1000000
theorem Short.at_ {L : List (List Int)} (h : Short L) (k : Nat) : (L.getD k []).length ≤ 1000000 := by
  by_cases hk : k < L.length
  · exact h.2 _ (by simp [List.getD, hk])
  · simp [List.getD, hk]
def RecsPost (w : World) (L : List (List Int)) (e : Ending) (w' : World) : Prop := ∃ g, e = .returned (.slice (some ⟨g, 0, none⟩) L.length L.length) ∧ Parts w' (w.heap.size ≤ ·) (some ⟨g, 0, none⟩) L.length L ∧ Below w.heap.size w w'
theorem make_sl (n : Nat) (hn : n ≤ 1000000) (w : World) : (Instr.makeSlice 48 (.int .i64 (n : Int)) (.int .i64 (n : Int))).run Try.prog w = .ok (.slice (some ⟨w.heap.size, 0, none⟩) n n) (w.alloc (.cells (madeCells #[Value.slice none 0 0] n) 37)) :=
  run_make_row' (P := Try.prog) 48 37 (.slice none 0 0) 24 Try.underlying48 sl_info rfl .i64 .i64 n (by omega) (by omega) w
set_option maxHeartbeats 4000000 in
theorem jRecords_any {w : World} {B j p : Nat} {v : Value} {next room life : Nat} {L : List (List Int)} (h : Jr w B j p v next room life L) (hs : Short L) :
    Calls Try.prog 27 #[.pointer (some ⟨j, 0, none⟩)] w (RecsPost w L) := by
  have c := h.c4
  obtain ⟨q, cp, rfl, hp⟩ := h.recs.parts
  have HP := Lib.hid (And.intro hp (And.intro hs h.cells.lt))
  obtain ⟨N, hN⟩ : ∃ N, L.length = N := ⟨_, rfl⟩
  have HN := Lib.hid hN
  have hNs : N ≤ 100000 := by rw [← hN]; exact hs.1
  rw [hN] at c HP
  have hmk := make_sl N (by omega)
  have h0 : ∃ cs : Array Value, Whole (w.alloc (.cells (madeCells #[Value.slice none 0 0] N) 37)) w.heap.size 37 cs ∧ cs.size = N ∧ ∀ k, k < 0 → ∃ u, cs[k]? = some u ∧ RowU (w.alloc (.cells (madeCells #[Value.slice none 0 0] N) 37)) w.heap.size u (L.getD k []) := ⟨_, Whole.new w _ _, by rw [size_madeCells], fun k hk => by omega⟩
  have H0 := Lib.hid (And.intro h0 (below_alloc w (.cells (madeCells #[Value.slice none 0 0] N) 37)))
  have cw : (w.alloc (.cells (madeCells #[Value.slice none 0 0] N) 37)).cell? ⟨j, 4, none⟩ = some (.slice q N cp) := (World.cell?_of_block (Below.heap_alloc w _ j h.cells.lt)).trans c
  obtain ⟨w1, hw1⟩ : ∃ w1, w.alloc (.cells (madeCells #[Value.slice none 0 0] N) 37) = w1 := ⟨_, rfl⟩
  rw [hw1] at H0 cw
  have HW := Lib.hid hw1
  clear h hp hs hN hw1 h0
  go_enter Try.func27, Try.ntmps27
  go_upto_region 4 with fail
  rw [HW.out]
  go_wp2
  clear cw c hmk HW
  go_loopw [19] (fun v wr => ∃ i : Nat, i ≤ N ∧ v = .int .i64 (i : Int) ∧ Hid ((∃ cs : Array Value, Whole wr w.heap.size 37 cs ∧ cs.size = N ∧ ∀ k, k < i → ∃ u, cs[k]? = some u ∧ RowU wr w.heap.size u (L.getD k [])) ∧ Below w.heap.size w wr)) (fun v _ => N - (intOf v).toNat)
  case atStart => exact ⟨0, Nat.zero_le _, rfl, H0⟩
  case round =>
    clear H0
    obtain ⟨i, hi, rfl, HB⟩ := hrel
    by_cases hlt : i < N
    · have q1 : (i : Int) < (N : Int) := by omega
      obtain ⟨b, off, a', n', c', rfl, _, hbl, hc, ht⟩ := HP.out.1.at_ hlt
      have ct : wr.cell? ⟨b, off + i, none⟩ = some (.slice a' n' c') := (World.cell?_of_block (HB.out.2.block b hbl)).trans hc
      have htr := ht.keep HB.out.2.size (fun b hb _ => HB.out.2.block b hb)
      have HT := Lib.hid htr
      have hn' : n' ≤ 1000000 := by rw [← ht.1]; exact HP.out.2.1.at_ i
      clear hbl hc ht htr
      go_wp2_with fail
      refine (clone_any HT.out hn').mono ?_
      rintro e w2 ⟨v, rfl, hv, hb2⟩
      obtain ⟨cs, hcs, hcn, hck⟩ := HB.out.1
      have hcs2 := hcs.below hb2 hcs.lt
      obtain ⟨old, hold⟩ : ∃ old, cs[i]? = some old := ⟨_, Array.getElem?_eq_getElem (by omega)⟩
      have cg : w2.cell? ⟨w.heap.size, i, none⟩ = some old := (hcs2.cell i).trans hold
      have fg := hcs2.frozen i
      obtain ⟨va, vc, rfl, _, _⟩ := hv.form
      have H2 : Hid ((∃ cs : Array Value, Whole (w2.setCell ⟨w.heap.size, i, none⟩ (.slice va (L.getD i []).length vc)) w.heap.size 37 cs ∧ cs.size = N ∧ ∀ k, k < i + 1 → ∃ u, cs[k]? = some u ∧ RowU (w2.setCell ⟨w.heap.size, i, none⟩ (.slice va (L.getD i []).length vc)) w.heap.size u (L.getD k [])) ∧ Below w.heap.size w (w2.setCell ⟨w.heap.size, i, none⟩ (.slice va (L.getD i []).length vc))) := Lib.hid (by
        have hkeep : ∀ {u : Value} {l : List Int}, RowU w2 w.heap.size u l → RowU (w2.setCell ⟨w.heap.size, i, none⟩ (.slice va (L.getD i []).length vc)) w.heap.size u l := fun hx => hx.keep fun g cur _ hg => Below.heap_setCell w2 ⟨w.heap.size, i, none⟩ _ g (fun e => by
          have e' : g = w.heap.size := e
          subst e'
          unfold Whole at hcs2
          rw [hcs2] at hg
          injection hg with h3
          injection h3 with _ h4
          exact absurd h4 (by decide))
        refine ⟨⟨_, hcs2.set i _, by simp [hcn], fun k hk => ?_⟩, (HB.out.2.trans (hb2.mono HB.out.2.size)).setCell (Nat.le_refl _) _⟩
        by_cases hki : k = i
        · subst hki
          exact ⟨_, by simp [hcn, hlt], hkeep (hv.base HB.out.2.size)⟩
        · obtain ⟨u, hu, hr⟩ := hck k (by omega)
          exact ⟨u, by rw [Array.getElem?_setIfInBounds]; rw [if_neg (fun e => hki e.symm)]; exact hu, hkeep (hr.below hb2)⟩)
      clear hcs hcn hck hcs2 hold hv hb2 HB ct
      go_wp2
      go_roundw
      case rel => exact ⟨i + 1, by omega, by go_num, H2⟩
      case measure => simp [intOf]; omega
    · obtain rfl : i = N := by omega
      have q1 : ¬ (i : Int) < (i : Int) := by omega
      have HF : Hid (RecsPost w L (.returned (.slice (some ⟨w.heap.size, 0, none⟩) i i)) wr) := Lib.hid (by
        obtain ⟨⟨cs, hcs, hcn, hck⟩, hb⟩ := HB.out
        have e := HN.out
        refine ⟨w.heap.size, by rw [e], ⟨rfl, Or.inr ⟨w.heap.size, 0, rfl, Nat.le_refl _, hcs.lt, fun k hk => ?_⟩⟩, hb⟩
        obtain ⟨u, hu, hr⟩ := hck k (by omega)
        obtain ⟨a', c', rfl, _, ht⟩ := hr.form
        exact ⟨a', _, c', by rw [hcs.cell, Nat.zero_add]; exact hu, ht⟩)
      clear HB
      go_wp2
      go_ret
      exact HF.out
end Go.Proofs.Ytfecobkpdmjaeaa
