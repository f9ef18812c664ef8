/-
  The walk of Same, where two lists are one; awake; names.
-/
import Derived.Test.YtfecobkpdmjaeaaQl
import Derived.Deep.DeepCutAuto
import Derived.Lib.ConvBytes
import Derived.Lib.Bytes
import Derived.Lib.SlBytesConst
namespace Go.Proofs.Ytfecobkpdmjaeaa
open Go.RowKit
set_option linter.unusedVariables false
set_option linter.unusedSimpArgs false
set_option maxRecDepth 20000
theorem convert_txt {w : World} {S : Nat → Prop} {a : Option Addr} {n c : Nat} {l : List Int} (h : Txt w S a n c l) : (convert 37 9 (.slice a n c)).run Try.prog w = .ok (.string (strOfNums l)) w := by
  rcases h.2.2.2 with h0 | ⟨b, off, rfl, _, _, hc⟩
  · subst h0
    have hn : n = 0 := h.1.symm
    subst hn
    cases a with
    | none => exact run_convert_bytes_nil w 37 5 Try.underlying37 Try.underlying5 0 c 9 Try.underlying9
    | some ad =>
      rw [run_convert_bytes_string w 37 9 5 _ 0 c Try.underlying37 Try.underlying5 Try.underlying9]
      rw [run_bytesToString w ad 0 c [] rfl]
      rfl
  · exact run_convert_bytes_arg w 37 5 Try.underlying37 Try.underlying5 b off n c l h.1 hc 9 Try.underlying9
set_option maxHeartbeats 4000000 in
theorem sameR_any {S S' : Nat → Prop} {a b : Option Addr} {n c d : Nat} {L : List (List Int)} {w : World} (h : Parts w S a n L) (h' : Parts w S' b n L) (hn : n ≤ 100000) :
    Calls Try.prog 26 #[.slice a n c, .slice b n d] w fun e w' => e = .returned (.bool true) ∧ ∃ q, w' = w.drewN q := by
  have H0 : Hid (Parts w S a n L ∧ Parts w S' b n L ∧ ∃ q, w = w.drewN q) := Lib.hid ⟨h, h', 0, rfl⟩
  clear h h'
  have q0 : (n != n) = false := by simp
  have q0' : ((n : Int) != (n : Int)) = false := by simp
  go_enter Try.func26, Try.ntmps26
  go_wp2
  go_loopw [5] (fun v wr => ∃ k : Nat, k ≤ n ∧ v = .int .i64 (k : Int) ∧ Hid (Parts wr S a n L ∧ Parts wr S' b n L ∧ ∃ q, wr = w.drewN q)) (fun v _ => n - (intOf v).toNat)
  case atStart => exact ⟨0, Nat.zero_le _, rfl, H0⟩
  case round =>
    clear H0
    obtain ⟨k, hk, rfl, HB⟩ := hrel
    by_cases hlt : k < n
    · obtain ⟨ga, oa, a1, n1, c1, rfl, _, _, ca, ta⟩ := HB.out.1.at_ hlt
      obtain ⟨gb, ob, a2, n2, c2, rfl, _, _, cb, tb⟩ := HB.out.2.1.at_ hlt
      have q1 : (k : Int) < (n : Int) := by omega
      obtain ⟨s, hs⟩ : ∃ s, strOfNums (L.getD k []) = s := ⟨_, rfl⟩
      have hs0 : wr.drew.cell? ⟨ga, oa + k, none⟩ = some (.slice a1 n1 c1) ∧ wr.drew.cell? ⟨gb, ob + k, none⟩ = some (.slice a2 n2 c2) ∧ (convert 37 9 (.slice a1 n1 c1)).run Try.prog wr.drew = .ok (.string s) wr.drew ∧ (convert 37 9 (.slice a2 n2 c2)).run Try.prog wr.drew = .ok (.string s) wr.drew := ⟨ca, cb, by rw [← hs]; exact convert_txt (ta.keep (w' := wr.drew) (Nat.le_refl _) (fun _ _ _ => rfl)), by rw [← hs]; exact convert_txt (tb.keep (w' := wr.drew) (Nat.le_refl _) (fun _ _ _ => rfl))⟩
      have HS := Lib.hid hs0
      clear hs0 ca cb ta tb hs
      go_upto_region 6 with fail
      refine wp_region_held_drew (S := fun v => v.cell? ⟨ga, oa + k, none⟩ = some (.slice a1 n1 c1) ∧ v.cell? ⟨gb, ob + k, none⟩ = some (.slice a2 n2 c2) ∧ (convert 37 9 (.slice a1 n1 c1)).run Try.prog v = .ok (.string s) v ∧ (convert 37 9 (.slice a2 n2 c2)).run Try.prog v = .ok (.string s) v) (by kernel_rfl) HS.out (fun hHeld => ?_)
      refine wpAnyH_take (i := 0) (v := .slice (some ⟨ga, oa, none⟩) n c) rfl (by kernel_rfl) (by kernel_rfl) (by kernel_rfl) (fun _ _ _ h => h) (Or.inl ⟨by rfl, (by intro w hSw; (try dsimp only at hSw); go_simp)⟩) (by assumption) ?_
      try simp only [Act.put, List.getElem_toArray, List.getElem_cons_zero, List.getElem_cons_succ, List.setIfInBounds_toArray, List.set_cons_zero, List.set_cons_succ]
      refine wpAnyH_take (i := 1) (v := .int .i64 (k : Int)) rfl (by kernel_rfl) (by kernel_rfl) (by kernel_rfl) (fun _ _ _ h => h) (Or.inl ⟨by rfl, (by intro w hSw; (try dsimp only at hSw); go_simp)⟩) (by assumption) ?_
      try simp only [Act.put, List.getElem_toArray, List.getElem_cons_zero, List.getElem_cons_succ, List.setIfInBounds_toArray, List.set_cons_zero, List.set_cons_succ]
      refine wpAnyH_take (i := 2) (v := .pointer (some ⟨ga, oa + k, none⟩)) rfl (by kernel_rfl) (by kernel_rfl) (by kernel_rfl) (fun _ _ _ h => h) (Or.inl ⟨by rfl, (by intro w hSw; (try dsimp only at hSw); go_simp)⟩) (by assumption) ?_
      try simp only [Act.put, List.getElem_toArray, List.getElem_cons_zero, List.getElem_cons_succ, List.setIfInBounds_toArray, List.set_cons_zero, List.set_cons_succ]
      refine wpAnyH_take (i := 3) (v := .slice a1 n1 c1) rfl (by kernel_rfl) (by kernel_rfl) (by kernel_rfl) (fun _ _ _ h => h) (Or.inl ⟨by rfl, (by intro w hSw; (try dsimp only at hSw); go_simp)⟩) (by assumption) ?_
      try simp only [Act.put, List.getElem_toArray, List.getElem_cons_zero, List.getElem_cons_succ, List.setIfInBounds_toArray, List.set_cons_zero, List.set_cons_succ]
      refine wpAnyH_take (i := 4) (v := .string s) rfl (by kernel_rfl) (by kernel_rfl) (by kernel_rfl) (fun _ _ _ h => h) (Or.inl ⟨by rfl, (by intro w hSw; (try dsimp only at hSw); go_simp)⟩) (by assumption) ?_
      try simp only [Act.put, List.getElem_toArray, List.getElem_cons_zero, List.getElem_cons_succ, List.setIfInBounds_toArray, List.set_cons_zero, List.set_cons_succ]
      refine wpAnyH_take (i := 5) (v := .slice (some ⟨gb, ob, none⟩) n d) rfl (by kernel_rfl) (by kernel_rfl) (by kernel_rfl) (fun _ _ _ h => h) (Or.inl ⟨by rfl, (by intro w hSw; (try dsimp only at hSw); go_simp)⟩) (by assumption) ?_
      try simp only [Act.put, List.getElem_toArray, List.getElem_cons_zero, List.getElem_cons_succ, List.setIfInBounds_toArray, List.set_cons_zero, List.set_cons_succ]
      refine wpAnyH_take (i := 6) (v := .int .i64 (k : Int)) rfl (by kernel_rfl) (by kernel_rfl) (by kernel_rfl) (fun _ _ _ h => h) (Or.inl ⟨by rfl, (by intro w hSw; (try dsimp only at hSw); go_simp)⟩) (by assumption) ?_
      try simp only [Act.put, List.getElem_toArray, List.getElem_cons_zero, List.getElem_cons_succ, List.setIfInBounds_toArray, List.set_cons_zero, List.set_cons_succ]
      refine wpAnyH_take (i := 7) (v := .pointer (some ⟨gb, ob + k, none⟩)) rfl (by kernel_rfl) (by kernel_rfl) (by kernel_rfl) (fun _ _ _ h => h) (Or.inl ⟨by rfl, (by intro w hSw; (try dsimp only at hSw); go_simp)⟩) (by assumption) ?_
      try simp only [Act.put, List.getElem_toArray, List.getElem_cons_zero, List.getElem_cons_succ, List.setIfInBounds_toArray, List.set_cons_zero, List.set_cons_succ]
      refine wpAnyH_take (i := 8) (v := .slice a2 n2 c2) rfl (by kernel_rfl) (by kernel_rfl) (by kernel_rfl) (fun _ _ _ h => h) (Or.inl ⟨by rfl, (by intro w hSw; (try dsimp only at hSw); go_simp)⟩) (by assumption) ?_
      try simp only [Act.put, List.getElem_toArray, List.getElem_cons_zero, List.getElem_cons_succ, List.setIfInBounds_toArray, List.set_cons_zero, List.set_cons_succ]
      refine wpAnyH_take (i := 9) (v := .string s) rfl (by kernel_rfl) (by kernel_rfl) (by kernel_rfl) (fun _ _ _ h => h) (Or.inl ⟨by rfl, (by intro w hSw; (try dsimp only at hSw); go_simp)⟩) (by assumption) ?_
      try simp only [Act.put, List.getElem_toArray, List.getElem_cons_zero, List.getElem_cons_succ, List.setIfInBounds_toArray, List.set_cons_zero, List.set_cons_succ]
      refine wpAnyH_take (i := 10) (v := .bool false) rfl (by kernel_rfl) (by kernel_rfl) (by kernel_rfl) (fun _ _ _ h => h) (Or.inl ⟨by rfl, (by intro w hSw; (try dsimp only at hSw); go_simp)⟩) (by assumption) ?_
      try simp only [Act.put, List.getElem_toArray, List.getElem_cons_zero, List.getElem_cons_succ, List.setIfInBounds_toArray, List.set_cons_zero, List.set_cons_succ]
      refine wpAnyH_done (by kernel_rfl) ?_ _
      go_wp2
      go_roundw
      case rel => exact ⟨k + 1, by omega, by go_num, Lib.hid ⟨HB.out.1.keep (Nat.le_refl _) (fun _ _ _ => rfl), HB.out.2.1.keep (Nat.le_refl _) (fun _ _ _ => rfl), by obtain ⟨q, hq⟩ := HB.out.2.2; exact ⟨q + 1, by rw [hq]; rfl⟩⟩⟩
      case measure => simp [intOf]; omega
    · have q1 : ¬ ((k : Int) < (n : Int)) := by omega
      go_wp2
      go_ret
      exact ⟨rfl, HB.out.2.2⟩
theorem Only.aft {S : List Nat} {a b w : World} (h : Only S a b) (hb : Below w.heap.size w a) (hS : ∀ x ∈ S, w.heap.size ≤ x) : Below w.heap.size w b := hb.trans (h.below hb.size hS)
def A1 : Dm.A := wrs (fresh 10) 1 [97] 1 1
def A2 : Dm.A := Dm.flush A1
def A3 : Dm.A := wrs A2 2 (zeros 50) 1 2
def A4 : Dm.A := Dm.crash A3 [64]
def A5 : Dm.A := Dm.start A4
set_option maxRecDepth 100000 in
theorem g0 : (Jl.go (bsOf (fresh 10) 1 8) (J0 0)).used = 0 ∧ (Jl.go (bsOf (fresh 10) 1 8) (J0 0)).recs = [] ∧ grt (bsOf (fresh 10) 1 8) = 0 := by decide +kernel
set_option maxRecDepth 100000 in
theorem g5 : (Jl.go (bsOf A5 1 8) (J0 0)).used = 1 ∧ (Jl.go (bsOf A5 1 8) (J0 0)).recs = [[97]] ∧ grt (bsOf A5 1 8) = 1 := by decide +kernel
theorem txt_new {w : World} {t : TypeId} {fr : Nat × Nat} {l : List Int} (hb : Byt l) : Txt (w.alloc (.cells (nums l).toArray t fr)) (· = w.heap.size) (some ⟨w.heap.size, 0, none⟩) l.length l.length l := by
  refine ⟨rfl, Nat.le_refl _, hb, Or.inr ⟨w.heap.size, 0, rfl, rfl, by simp, fun k hk => ?_⟩⟩
  rw [Nat.zero_add, cell_of_row _ _ k (nums l).toArray t fr (heap_alloc_new w _), List.getElem?_toArray, nums_get l k hk]
theorem byt97 : Byt [97] := by intro x hx; simp at hx; omega
set_option maxHeartbeats 8000000 in
set_option maxRecDepth 100000 in
theorem awake_any {w : World} : Calls Try.prog 10 #[] w fun e w' => e = .returned (.bool true) ∧ Below w.heap.size w w' := by
  go_enter Try.func10, Try.ntmps10
  go_wp2_with fail
  refine (new_ok (n := 10) (by omega)).mono ?_
  rintro e w1 ⟨p, bb, mb, rfl, hd1, hp, hbb, hmb, hb1⟩
  have HP : Hid (w.heap.size ≤ p ∧ w.heap.size ≤ bb ∧ w.heap.size ≤ mb ∧ p < w1.heap.size ∧ bb < w1.heap.size ∧ mb < w1.heap.size) := Lib.hid ⟨hp, hbb, hmb, hd1.cells.lt, hd1.bytes.lt, hd1.map.lt⟩
  have H1 := Lib.hid (And.intro hd1 hb1)
  clear hd1 hb1 hp hbb hmb
  go_wp2_with fail
  refine (open_any (fr := 1) (m := 8) H1.out.1 rfl (by omega)).mono ?_
  rintro e w2 ⟨j, v, rfl, hj2, hjs, hb2⟩
  rw [g0.1, g0.2.1, g0.2.2] at hj2
  have HJ : Hid (w1.heap.size ≤ j ∧ j < w2.heap.size ∧ w.heap.size ≤ w1.heap.size) := Lib.hid ⟨hjs, hj2.cells.lt, H1.out.2.size⟩
  have H2 := Lib.hid (And.intro hj2 (And.intro (H1.out.1.old hb2) (H1.out.2.trans (hb2.mono H1.out.2.size))))
  clear hj2 hjs hb2
  have kc := fun (w : World) (C : Array Value) (n c : Nat) => Lib.run_convert_bytes_const (P := Try.prog) w 37 5 C n c Try.underlying37 Try.underlying5
  go_wp2_with fail
  have hb3 := below_alloc w2 (.cells #[.int .u8 97] 5 (1, 2))
  have ht3 : Txt (w2.alloc (.cells #[.int .u8 97] 5 (1, 2))) (· = w2.heap.size) (some ⟨w2.heap.size, 0, none⟩) 1 1 [97] := txt_new (l := [97]) byt97
  have hs3 := size_alloc w2 (.cells #[.int .u8 97] 5 (1, 2))
  have hj3 := H2.out.1.below hb3
  have hd3 := H2.out.2.1.old hb3
  refine (jAppend_ok (life := 1) hj3 hd3 HP.out.2.2.2.2.1 rfl ht3 (fun b hb => by have := HP.out; have := HJ.out; have hb' : b = w2.heap.size := hb; omega) (by omega) (by omega) (by decide) (by omega) ⟨by decide, by decide⟩ (by omega) (by have := HJ.out; omega)).mono ?_
  rintro e w4 ⟨v4, rfl, hj4, hd4, ho4, _⟩
  have hz4 : Jl.need [97] = 1 := rfl
  rw [hz4] at hj4 hd4
  have H4 : Hid (Jr w4 w1.heap.size j p v4 2 7 1 [[97]] ∧ Dk w4 p bb mb A1 10 ∧ Below w.heap.size w w4) := Lib.hid ⟨hj4, hd4, ho4.aft (H2.out.2.2.trans (hb3.mono H2.out.2.2.size)) (by have := HP.out; have := HJ.out; intro x hx; simp at hx; omega)⟩
  clear hb3 ht3 hs3 hj3 hd3 hj4 hd4 ho4 hz4 kc
  go_wp2_with fail
  refine (jForce_up H4.out.1 H4.out.2.1 HP.out.2.2.2.2.1 rfl).mono ?_
  rintro e w5 ⟨rfl, hj5, hd5, ho5⟩
  have H5 : Hid (Jr w5 w1.heap.size j p v4 2 7 1 [[97]] ∧ Dk w5 p bb mb A2 10 ∧ Below w.heap.size w w5) := Lib.hid ⟨hj5, hd5, ho5.aft H4.out.2.2 (by have := HP.out; intro x hx; simp at hx; omega)⟩
  clear hj5 hd5 ho5
  have hmk : ∀ w, (Instr.makeSlice 37 (.int .i64 50) (.int .i64 50)).run Try.prog w = .ok (.slice (some ⟨w.heap.size, 0, none⟩) 50 50) (w.alloc (.cells (nums (zeros 50)).toArray 5)) := make_zeros 50 (by omega)
  go_wp2_with fail
  have hb6 := below_alloc w5 (.cells (nums (zeros 50)).toArray 5)
  have ht6 : Txt (w5.alloc (.cells (nums (zeros 50)).toArray 5)) (· = w5.heap.size) (some ⟨w5.heap.size, 0, none⟩) 50 50 (zeros 50) := txt_new (l := zeros 50) (byt_zeros 50)
  have hs6 := size_alloc w5 (.cells (nums (zeros 50)).toArray 5)
  have hj6 := H5.out.1.below hb6
  have hd6 := H5.out.2.1.old hb6
  have hjl := H5.out.1.cells.lt
  have hpl := H5.out.2.1.cells.lt
  have hbl := H5.out.2.1.bytes.lt
  have hml := H5.out.2.1.map.lt
  refine (jAppend_ok (life := 1) hj6 hd6 HP.out.2.2.2.2.1 rfl ht6 (fun b hb => by have hb' : b = w5.heap.size := hb; omega) (by omega) (by omega) (by decide) (by omega) ⟨by decide, by decide⟩ (by omega) (by have := HJ.out; omega)).mono ?_
  rintro e w7 ⟨v7, rfl, hj7, hd7, ho7, _⟩
  have hz7 : Jl.need (zeros 50) = 2 := rfl
  rw [hz7] at hj7 hd7
  have H7 : Hid (Jr w7 w1.heap.size j p v7 4 5 1 ([[97]] ++ [zeros 50]) ∧ Dk w7 p bb mb A3 10 ∧ Below w.heap.size w w7) := Lib.hid ⟨hj7, hd7, ho7.aft (H5.out.2.2.trans (hb6.mono H5.out.2.2.size)) (by have := HP.out; have := HJ.out; intro x hx; simp at hx; omega)⟩
  clear hb6 ht6 hs6 hj6 hd6 hj7 hd7 ho7 hz7 hmk hjl hpl hbl hml
  go_wp2_with fail
  refine (jRoom_any H7.out.1).mono ?_
  rintro e w8 ⟨rfl, rfl⟩
  go_wp2_with fail
  have hb8 := below_alloc w7 (.cells #[.int .i64 64] 3)
  have hit := its_one w7 64 (S := fun b => b ≠ p ∧ b ≠ bb ∧ b ≠ mb) ⟨fun e => by have := H7.out.2.1.cells.lt; omega, fun e => by have := H7.out.2.1.bytes.lt; omega, fun e => by have := H7.out.2.1.map.lt; omega⟩
  refine (crash_any (H7.out.2.1.old hb8) rfl hit (by unfold maxLen; omega)).mono ?_
  rintro e w9 ⟨rfl, hd9, ho9⟩
  have H9 : Hid (Dk w9 p bb mb A4 10 ∧ Below w.heap.size w w9) := Lib.hid ⟨hd9, ho9.aft (H7.out.2.2.trans (hb8.mono H7.out.2.2.size)) (by have := HP.out; intro x hx; simp at hx; omega)⟩
  clear hd9 ho9 hb8 hit
  go_wp2_with fail
  refine (start_any H9.out.1).mono ?_
  rintro e w10 ⟨rfl, hd10, hg10, hs10⟩
  have H10 : Hid (Dk w10 p bb mb A5 10 ∧ Below w.heap.size w w10) := Lib.hid ⟨hd10, (Only.of_grown (S := [p]) hg10 (by simp)).aft H9.out.2 (by have := HP.out; intro x hx; simp at hx; omega)⟩
  clear hd10 hg10 hs10
  go_wp2_with fail
  refine (open_any (fr := 1) (m := 8) H10.out.1 rfl (by omega)).mono ?_
  rintro e w11 ⟨k, u, rfl, hj11, hjs11, hb11⟩
  rw [g5.1, g5.2.1, g5.2.2] at hj11
  have H11 : Hid (Jr w11 w10.heap.size k p u 2 7 2 [[97]] ∧ Below w.heap.size w w11) := Lib.hid ⟨hj11, H10.out.2.trans (hb11.mono H10.out.2.size)⟩
  clear hj11 hjs11 hb11
  go_wp2_with fail
  refine (jRecords_any H11.out.1 ⟨by decide, by decide⟩).mono ?_
  rintro e w12 ⟨g, rfl, hp12, hb12⟩
  obtain ⟨b, off, a', n', c', hbe, _, _, hcl, htx⟩ := hp12.at_ (k := 0) (by decide)
  injection hbe with hbe
  injection hbe with hbe hoe
  subst hbe hoe
  have hc0 : w12.cell? ⟨g, 0, none⟩ = some (.slice a' n' c') := hcl
  have hcv := convert_txt htx
  have H12 : Hid (Jr w12 w10.heap.size k p u 2 7 2 [[97]] ∧ Below w.heap.size w w12) := Lib.hid ⟨H11.out.1.below hb12, H11.out.2.trans (hb12.mono H11.out.2.size)⟩
  clear hp12 hb12 hcl htx
  have hstr : strOfNums ([[97]].getD 0 []) = ⟨#[97]⟩ := by decide +kernel
  rw [hstr] at hcv
  clear hstr
  go_wp2_with (first | (go_at_call 31; refine (jLife_any H12.out.1).mono ?_; rintro e w13 ⟨rfl, rfl⟩) | (go_at_call 30; refine (jRoom_any H12.out.1).mono ?_; rintro e w13 ⟨rfl, rfl⟩) | (go_at_call 15; refine (jAppend_rec (Or.inl rfl)).mono ?_; rintro e w13 ⟨rfl, rfl⟩) | fail)
  go_ret
  exact ⟨rfl, H12.out.2⟩
set_option maxHeartbeats 4000000 in
theorem names_walk (w : World) : Calls Try.prog 3 #[] w fun e w' => e = .returned (.bool true) ∧ Below w.heap.size w w' := by
  go_enter Try.func3, Try.ntmps3
  go_wp2_with (first | (go_at_call 10; refine awake_any.mono ?_; rintro e w1 ⟨rfl, hb1⟩) | fail)
  go_ret
  exact ⟨rfl, hb1⟩
theorem jRecords_nil {w : World} : Calls Try.prog 27 #[.pointer none] w fun e w' => e = .returned (.slice none 0 0) ∧ w = w' := by
  go_enter Try.func27, Try.ntmps27
  go_wp2
  go_ret
  exact ⟨rfl, rfl⟩
set_option maxHeartbeats 4000000 in
theorem nil_walk (a : Option Addr) (n c : Nat) (l : List Int) (z : Int) (w : World) : Calls Try.prog 7 #[.slice a n c, .int .i64 z] w fun e w' => e = .returned (.bool true) ∧ Below w.heap.size w w' := by
  go_enter Try.func7, Try.ntmps7
  go_wp2_with (first | (go_at_call 10; refine awake_any.mono ?_; rintro e w1 ⟨rfl, hb1⟩) | (go_at_call 13; refine open_nil.mono ?_; rintro e w2 ⟨rfl, rfl⟩) | (go_at_call 15; refine jAppend_nil.mono ?_; rintro e w2 ⟨rfl, rfl⟩) | (go_at_call 17; refine jForce_nil.mono ?_; rintro e w2 ⟨rfl, rfl⟩) | (go_at_call 27; refine jRecords_nil.mono ?_; rintro e w2 ⟨rfl, rfl⟩) | (go_at_call 30; refine jRoom_nil.mono ?_; rintro e w2 ⟨rfl, rfl⟩) | (go_at_call 31; refine jLife_nil.mono ?_; rintro e w2 ⟨rfl, rfl⟩) | fail)
  go_ret
  exact ⟨rfl, hb1⟩
end Go.Proofs.Ytfecobkpdmjaeaa
