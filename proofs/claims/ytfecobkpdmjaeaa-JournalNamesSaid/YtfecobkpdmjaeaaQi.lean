/-
  The closure that hands out a record's blocks.
-/
import Derived.Test.YtfecobkpdmjaeaaQh
import Derived.Laws.CopyOwn
namespace Go.Proofs.Ytfecobkpdmjaeaa
open Go.RowKit
set_option linter.unusedVariables false
set_option linter.unusedSimpArgs false
set_option maxRecDepth 20000
theorem slice_from {a : Option Addr} {m c j : Nat} (h1 : j ≤ m) (w : World) : (Instr.slice 37 (.slice a m c) (some (.int .i64 (j : Int))) none none).run Try.prog w = .ok (.slice (if c = j then a else a.map (·.add j)) (m - j) (c - j)) w := by
  have hb : (0 : Int) ≤ (j : Int) ∧ (j : Int) ≤ (m : Int) := by omega
  simp only [Instr.slice, Instr.sliceBounds, Instr.sliceBound, Sem.run_bind, Sem.run_pure, Result.andThen_ok, run_underlying Try.underlying37, asIntOf, if_pos hb, size_u8, Int.toNat_natCast, Nat.mul_one]
/-- A block of the life l whose record's bytes are x, the last one or not. -/
def blk1 (x : List Int) (la : Nat) (l : Nat) : List Int := (Jl.big l ++ ([((0 : Nat) : Int), ((x.length : Nat) : Int), ((la : Nat) : Int), 0] ++ (x ++ List.replicate (44 - x.length) 0))) ++ Jl.big l
theorem blk1_block (r : List Int) (i l : Nat) : Jl.block r i l = blk1 (Jl.cut r i) (Jl.isLast r i) l := rfl
theorem splice_mid (A B C D : List Int) (h : B.length = D.length) : splice (nums (A ++ (B ++ C))) A.length (nums D) = nums (A ++ (D ++ C)) := by
  unfold splice
  rw [nums_len, ← h, ← nums_take, ← nums_drop, ← nums_append, ← nums_append]
  congr 1
  rw [List.take_left' rfl, List.drop_append, List.drop_of_length_le (by omega), List.nil_append, Nat.add_sub_cancel_left, List.drop_left' rfl]
def zz (n : Nat) : List Int := List.replicate n 0
theorem zz_len (n : Nat) : (zz n).length = n := by simp [zz]
theorem zz_add (a b : Nat) : zz (a + b) = zz a ++ zz b := by unfold zz; rw [List.replicate_append_replicate]
/-- How a block is filled. -/
def fill1 (l : Nat) : List Int := Jl.big l ++ zz 56
def fill2 (l n : Nat) : List Int := Jl.big l ++ ([((0 : Nat) : Int), ((n : Nat) : Int)] ++ zz 54)
def fill3 (l n la : Nat) : List Int := Jl.big l ++ ([((0 : Nat) : Int), ((n : Nat) : Int), ((la : Nat) : Int), 0] ++ zz 52)
def fill4 (l la : Nat) (x : List Int) : List Int := Jl.big l ++ ([((0 : Nat) : Int), ((x.length : Nat) : Int), ((la : Nat) : Int), 0] ++ (x ++ zz (44 - x.length))) ++ zz 8
theorem big_len (l : Nat) : (Jl.big l).length = 8 := rfl
theorem fill_1 (l : Nat) : splice (nums z64) 0 (nums (low 8 l)) = nums (fill1 l) := by
  have := splice_mid [] (zz 8) (zz 56) (low 8 l) (by rw [zz_len, low_len])
  rw [List.nil_append, ← zz_add] at this
  rw [low_eight] at this ⊢
  exact this
theorem fill_2 (l n : Nat) (h : n < 256) : splice (nums (fill1 l)) 8 (nums (low 2 n)) = nums (fill2 l n) := by
  have := splice_mid (Jl.big l) (zz 2) (zz 54) (low 2 n) (by rw [zz_len, low_len])
  have e : low 2 n = [((0 : Nat) : Int), ((n : Nat) : Int)] := by rw [low_two, show n / 256 % 256 = 0 by omega, show n % 256 = n by omega]
  rw [← zz_add, big_len, e] at this
  rw [e]
  exact this
theorem fill_3 (l n : Nat) : fill3 l n 0 = fill2 l n := rfl
theorem fill_3' (l n : Nat) : (nums (fill2 l n)).toArray.setIfInBounds 10 (.int .u8 1) = (nums (fill3 l n 1)).toArray := rfl
theorem fill_4 (l la : Nat) (x : List Int) (h : x.length ≤ 44) : splice (nums (fill3 l x.length la)) 12 (nums x) = nums (fill4 l la x) := by
  have := splice_mid (Jl.big l ++ [((0 : Nat) : Int), ((x.length : Nat) : Int), ((la : Nat) : Int), 0]) (zz x.length) (zz (44 - x.length) ++ zz 8) x (by rw [zz_len])
  rw [← zz_add, ← zz_add, show x.length + (44 - x.length + 8) = 52 by omega] at this
  have e : (Jl.big l ++ [((0 : Nat) : Int), ((x.length : Nat) : Int), ((la : Nat) : Int), 0]).length = 12 := rfl
  rw [e] at this
  unfold fill3 fill4
  rw [← List.append_assoc, this, zz_add]
  simp only [List.append_assoc]
theorem fill_5 (l la : Nat) (x : List Int) (h : x.length ≤ 44) : splice (nums (fill4 l la x)) 56 (nums (low 8 l)) = nums (blk1 x la l) := by
  have := splice_mid (Jl.big l ++ ([((0 : Nat) : Int), ((x.length : Nat) : Int), ((la : Nat) : Int), 0] ++ (x ++ zz (44 - x.length)))) (zz 8) [] (low 8 l) (by rw [zz_len, low_len])
  have e : (Jl.big l ++ ([((0 : Nat) : Int), ((x.length : Nat) : Int), ((la : Nat) : Int), 0] ++ (x ++ zz (44 - x.length)))).length = 56 := by
    simp only [List.length_append, big_len, zz_len, List.length_cons, List.length_nil]; omega
  rw [e, List.append_nil, List.append_nil] at this
  rw [low_eight] at this ⊢
  exact this
theorem fill1_len (l : Nat) : (fill1 l).length = 64 := rfl
theorem fill2_len (l n : Nat) : (fill2 l n).length = 64 := rfl
theorem fill3_len (l n la : Nat) : (fill3 l n la).length = 64 := rfl
theorem fill4_len (l la : Nat) (x : List Int) (h : x.length ≤ 44) : (fill4 l la x).length = 64 := by unfold fill4; simp [zz, big_len]; omega
theorem blk1_len (x : List Int) (la l : Nat) (h : x.length ≤ 44) : (blk1 x la l).length = 64 := by unfold blk1; simp [big_len]; omega
theorem only_below {B g : Nat} {a b c : World} (h : Below B a b) (hB : B ≤ b.heap.size) (ho : Only [g] b c) (hg : B ≤ g) : Below B a c :=
  h.trans (ho.below hB (fun j hj => by simp at hj; omega))
def Handed (w : World) (qp n life : Nat) (S : Nat → Prop) (r : List Int) (e : Ending) (w' : World) : Prop :=
  e = .returned (.agg (nums (blk1 (r.take 44) (if r.length ≤ 44 then 1 else 0) life)).toArray) ∧
      (∃ a' c', Whole w' qp 37 #[.slice a' (n - 44) c'] ∧ Txt w' S a' (n - 44) c' (r.drop 44)) ∧ Only [qp] w w'
theorem Handed.mk {w w9 : World} {qp n m life la c2 : Nat} {S : Nat → Prop} {r x : List Int} {a2 : Option Addr} (hx : r.take m = x) (hrn : r.length = n) (hm : m = min n 44) (hla : la = if n ≤ 44 then 1 else 0)
    (hq : Whole w9 qp 37 #[.slice a2 (n - m) c2]) (ht : Txt w9 S a2 (n - m) c2 (r.drop m)) (ho : Only [qp] w w9) :
    Handed w qp n life S r (.returned (.agg (nums (blk1 x la life)).toArray)) w9 := by
  have e1 : r.take 44 = x := by
    rw [← hx, hm]
    by_cases h : n ≤ 44
    · rw [Nat.min_eq_left h, List.take_of_length_le (by omega), List.take_of_length_le (by omega)]
    · rw [Nat.min_eq_right (by omega)]
  have e2 : r.drop 44 = r.drop m := by
    rw [hm]
    by_cases h : n ≤ 44
    · rw [Nat.min_eq_left h, List.drop_of_length_le (by omega), List.drop_of_length_le (by omega)]
    · rw [Nat.min_eq_right (by omega)]
  have e3 : n - 44 = n - m := by omega
  unfold Handed
  rw [e1, e2, e3, hrn, ← hla]
  exact ⟨rfl, ⟨a2, c2, hq, ht⟩, ho⟩
set_option maxHeartbeats 8000000 in
theorem hand_any {qp ql n c life : Nat} {S : Nat → Prop} {a : Option Addr} {r : List Int} {w : World} (hq : Whole w qp 37 #[.slice a n c]) (hl : Whole w ql 2 #[.int .i64 (life : Int)]) (hne : ql ≠ qp) (hr : Txt w S a n c r) (hS : ∀ b, S b → b ≠ qp ∧ b < w.heap.size) (hlf : life ≤ 9223372036854775807) (hnm : n ≤ maxLen) :
    Calls Try.prog 55 #[.pointer (some ⟨qp, 0, none⟩), .pointer (some ⟨ql, 0, none⟩)] w (Handed w qp n life S r) := by
  unfold maxLen at hnm
  have hzk := zero_k
  have hrn := hr.1
  obtain ⟨m, hm⟩ : ∃ m, m = min n 44 := ⟨_, rfl⟩
  have hmn : m ≤ n := by omega
  have hm44 : m ≤ 44 := by omega
  have hnc : n ≤ c := hr.2.1
  have HT := Lib.hid (And.intro hr (And.intro hS (And.intro hq (And.intro hl (And.intro hne hrn)))))
  have HM := Lib.hid hm
  clear hr hS hrn hq hl hm hne
  go_enter Try.func55, Try.ntmps55
  go_upto_region 1 with fail
  have ht0 := HT.out.1.keep (w' := w.alloc (.cells zb 80)) (by simp) (fun b hb _ => Below.heap_alloc w _ b hb)
  have hb0 := below_alloc w (.cells zb 80)
  have hg0 := Whole.new w 80 zb
  have hq0 := HT.out.2.2.1.alloc (.cells zb 80)
  have hl0 := HT.out.2.2.2.1.alloc (.cells zb 80)
  have hs0 := size_alloc w (.cells zb 80)
  obtain ⟨w0, hw0⟩ : ∃ w0, w.alloc (.cells zb 80) = w0 := ⟨_, rfl⟩
  rw [hw0] at ht0 hb0 hg0 hq0 hl0 hs0 ⊢
  have cq : w0.cell? ⟨qp, 0, none⟩ = some (.slice a n c) := hq0.cell 0
  have fq := hq0.frozen 0
  have H0 := Lib.hid (And.intro ht0 (And.intro hb0 (And.intro hg0 (And.intro hq0 (And.intro hl0 hs0)))))
  obtain ⟨a2, hsl, HD⟩ : ∃ a2, (∀ w, (Instr.slice 37 (.slice a n c) (some (.int .i64 (m : Int))) none none).run Try.prog w = .ok (.slice a2 (n - m) (c - m)) w) ∧ Hid (Txt w0 S a2 (n - m) (c - m) (r.drop m)) := ⟨_, slice_from hmn, Lib.hid (ht0.drop m hmn)⟩
  have hmi : (if (n : Int) < 44 then (n : Int) else 44) = (m : Int) := by have := HM.out; split <;> omega
  clear hw0 ht0 hb0 hg0 hq0 hl0 hs0
  go_upto_region 4 with (fail)
  clear hsl hmi cq fq
  have ht2 := HT.out
  have hg1 := H0.out.2.2.1.far (p := ⟨qp, 0, none⟩) (u := .slice a2 (n - m) (c - m)) (by have := H0.out.2.2.2.1.lt; have := H0.out.2.2.2.2.2; have := HT.out.2.2.1.lt; show w.heap.size ≠ qp; omega)
  have hq1 := H0.out.2.2.2.1.set 0 (.slice a2 (n - m) (c - m))
  have hl1 := H0.out.2.2.2.2.1.far (p := ⟨qp, 0, none⟩) (u := .slice a2 (n - m) (c - m)) HT.out.2.2.2.2.1
  have hT1 := HD.out.keep (w' := w0.setCell ⟨qp, 0, none⟩ (.slice a2 (n - m) (c - m))) (by simp) (fun b _ hb => Below.heap_setCell w0 ⟨qp, 0, none⟩ _ b (HT.out.2.1 b hb).1)
  have hX1 := (H0.out.1.take m hmn).keep (w' := w0.setCell ⟨qp, 0, none⟩ (.slice a2 (n - m) (c - m))) (by simp) (fun b _ hb => Below.heap_setCell w0 ⟨qp, 0, none⟩ _ b (HT.out.2.1 b hb).1)
  have ho1 : Only [qp] w (w0.setCell ⟨qp, 0, none⟩ (.slice a2 (n - m) (c - m))) := (Only.of_below H0.out.2.1).trans (only_set w0 qp 0 _)
  have hs1 : (w0.setCell ⟨qp, 0, none⟩ (.slice a2 (n - m) (c - m))).heap.size = w0.heap.size := by simp
  obtain ⟨w1, hw1⟩ : ∃ w1, w0.setCell ⟨qp, 0, none⟩ (.slice a2 (n - m) (c - m)) = w1 := ⟨_, rfl⟩
  rw [hw1] at hg1 hq1 hl1 hT1 hX1 ho1 hs1 ⊢
  rw [← hs1]
  have hg4 := Whole.new w1 80 zb
  have hb4 := below_alloc w1 (.cells zb 80)
  have H1 := Lib.hid (And.intro hg1 (And.intro hq1 (And.intro hl1 (And.intro hT1 (And.intro hX1 (And.intro ho1 hs1))))))
  obtain ⟨G, hG⟩ : ∃ G, w1.heap.size = G := ⟨_, rfl⟩
  obtain ⟨w4, hw4⟩ : ∃ w4, w1.alloc (.cells zb 80) = w4 := ⟨_, rfl⟩
  rw [hG] at hg4 hb4 ⊢
  rw [hw4] at hg4 hb4 ⊢
  have HG := Lib.hid hG
  have H4 := Lib.hid (And.intro hg4 hb4)
  clear hw1 hg1 hq1 hl1 hT1 hX1 ho1 hs1 hg4 hb4 hG hw4 ht2
  have KL : ∀ (wx : World), Below G w1 wx → wx.cell? ⟨ql, 0, none⟩ = some (.int .i64 (life : Int)) := fun wx hb => (H1.out.2.2.1.below hb (by rw [← HG.out]; exact H1.out.2.2.1.lt)).cell 0
  have KLH := Lib.hid KL
  have cl : w4.cell? ⟨ql, 0, none⟩ = some (.int .i64 (life : Int)) := KL w4 H4.out.2
  have KF : Hid (∀ (wx : World) (hb : Below G w1 wx) (cs : Array Value), Whole (wx.setRow w.heap.size cs) qp 37 #[.slice a2 (n - m) (c - m)] ∧ Txt (wx.setRow w.heap.size cs) S a2 (n - m) (c - m) (r.drop m) ∧ Only [qp] w (wx.setRow w.heap.size cs)) := Lib.hid (fun wx hb cs => by
    have hqb : qp < w.heap.size := HT.out.2.2.1.lt
    have hGw : G = w.heap.size + 1 := by have := HG.out; have := H1.out.2.2.2.2.2.2; have := H0.out.2.2.2.2.2; omega
    refine ⟨(H1.out.2.1.below hb (by omega)).rowFar (by omega) _, (H1.out.2.2.2.1.below hb (fun b hb' _ => by rw [← HG.out]; exact hb')).keep (by simp [World.setRow]) (fun b hb1 hb2 => ?_), ?_⟩
    · exact setRow_other wx _ _ _ (by have := (HT.out.2.1 b hb2).2; omega)
    · have h1 := H1.out.2.2.2.2.2.1
      have hw1 := HG.out
      refine ⟨hb.os.trans h1.os, hb.tape.trans h1.tape, hb.output.trans h1.output, by have := hb.size; have := h1.size; simp [World.setRow]; omega, fun i hi hn => ?_⟩
      exact (setRow_other wx _ _ _ (by omega)).trans ((hb.block i (by omega)).trans (h1.block i hi hn)))
  clear KL
  have hlu : IntKind.u64.wrap (life : Int) = (life : Int) := by rw [IntKind.wrap_u64]; omega
  refine wp_region_held_drew (S := fun w' => w'.cell? ⟨ql, 0, none⟩ = some (.int .i64 (life : Int))) (by kernel_rfl) cl (fun hHeld => ?_)
  refine wpAnyH_take (i := 0) (v := .slice (some ⟨G, 0, none⟩) 8 64) rfl (by kernel_rfl) (by kernel_rfl) (by kernel_rfl) (fun _ _ _ h => h) (Or.inl ⟨by rfl, (by intro w hSw; (try dsimp only at hSw); go_simp)⟩) (by assumption) ?_
  try simp only [Act.put, List.getElem_toArray, List.getElem_cons_zero, List.getElem_cons_succ, List.setIfInBounds_toArray, List.set_cons_zero, List.set_cons_succ]
  refine wpAnyH_take (i := 1) (v := .int .i64 (life : Int)) rfl (by kernel_rfl) (by kernel_rfl) (by kernel_rfl) (fun _ _ _ h => h) (Or.inl ⟨by rfl, (by intro w hSw; (try dsimp only at hSw); go_simp)⟩) (by assumption) ?_
  try simp only [Act.put, List.getElem_toArray, List.getElem_cons_zero, List.getElem_cons_succ, List.setIfInBounds_toArray, List.set_cons_zero, List.set_cons_succ]
  refine wpAnyH_take (i := 2) (v := .int .u64 (life : Int)) rfl (by kernel_rfl) (by kernel_rfl) (by kernel_rfl) (fun _ _ _ h => h) (Or.inl ⟨by rfl, (by intro w hSw; (try dsimp only at hSw); go_simp)⟩) (by assumption) ?_
  try simp only [Act.put, List.getElem_toArray, List.getElem_cons_zero, List.getElem_cons_succ, List.setIfInBounds_toArray, List.set_cons_zero, List.set_cons_succ]
  have hg4 : Whole w4.drew G 80 (nums z64).toArray := H4.out.1.keep rfl
  have L5 := jlay_any (off := 0) (k := 8) (c := 64) (n := life) hg4 (by rw [nums_len, z64_len]; omega) (by omega) (by omega)
  have HL5 := Lib.hid L5
  clear hlu hg4 L5
  refine wpAnyH_ready (rs := [3]) (by kernel_rfl) (by simp) (AllReadyH.cons rfl (fun K hK => ?_) AllReadyH.nil)
  try simp only [List.getElem_toArray, List.getElem_cons_zero, List.getElem_cons_succ]
  go_simp
  refine HL5.out.mono ?_
  rintro e w5 ⟨rfl, hg5, ho5⟩
  rw [fill_1] at hg5
  have hGs := H4.out.1.lt
  have hbs : G ≤ w4.heap.size := by omega
  have hb5 : Below G w1 w5 := only_below (g := G) (b := w4) H4.out.2 hbs ⟨ho5.os, ho5.tape, ho5.output, ho5.size, ho5.block⟩ (Nat.le_refl _)
  have H5 := Lib.hid (And.intro hg5 hb5)
  have c5 := KLH.out w5 hb5
  have KQH : Hid (∀ wx : World, Below G w1 wx → wx.cell? ⟨qp, 0, none⟩ = some (.slice a2 (n - m) (c - m))) := Lib.hid (fun wx hb => (H1.out.2.1.below hb (by rw [← HG.out]; exact H1.out.2.1.lt)).cell 0)
  clear hg5 ho5 hGs hbs hb5 HL5 hHeld cl
  go_wp2_with fail
  refine hK.out _ _ c5 (fun hHeld => ?_)
  clear hK K hHeld c5
  try simp only [Act.put, List.getElem_toArray, List.getElem_cons_zero, List.getElem_cons_succ, List.setIfInBounds_toArray, List.set_cons_zero, List.set_cons_succ]
  refine wpAnyH_done (by kernel_rfl) ?_ _
  go_wp2_with fail
  have L6 := jlay_any (off := 8) (k := 2) (c := 56) (n := m) H5.out.1 (by rw [nums_len, fill1_len]; omega) (by omega) (by omega)
  rw [fill_2 life m (by omega)] at L6
  refine L6.mono ?_
  clear L6
  rintro e w6 ⟨rfl, hg6, ho6⟩
  have hb6 : Below G w1 w6 := only_below (g := G) (b := w5) H5.out.2 (by have := H5.out.1.lt; omega) ho6 (Nat.le_refl _)
  have cq6 := KQH.out w6 hb6
  have hgr6 : w6.cell? ⟨G, 10, none⟩ = some (.int .u8 0) := (hg6.cell 10).trans rfl
  have hfz6 := hg6.frozen 10
  have H6 := Lib.hid (And.intro hg6 hb6)
  clear hg6 ho6 hb6 H5
  by_cases hn : n ≤ 44
  · have q1 : ((n - m : Nat) : Int) = 0 := by have := HM.out; omega
    have q1' : n - m = 0 := by omega
    go_upto_region 8 with fail
    have hg7 := H6.out.1.set 10 (.int .u8 1)
    rw [fill_3'] at hg7
    have hb7 : Below G w1 (w6.setCell ⟨G, 10, none⟩ (.int .u8 1)) := only_below H6.out.2 (by have := H6.out.1.lt; omega) (only_set w6 G 10 _) (Nat.le_refl _)
    obtain ⟨w7, hw7⟩ : ∃ w7, w6.setCell ⟨G, 10, none⟩ (.int .u8 1) = w7 := ⟨_, rfl⟩
    rw [hw7] at hg7 hb7 ⊢
    have H7 := Lib.hid (And.intro hg7 hb7)
    clear hw7 hg7 hb7 cq6 hgr6 hfz6 H6 q1 q1'
    have hg8' : w7.cell? ⟨G, 10, none⟩ = w7.cell? ⟨G, 10, none⟩ := rfl
    have hxl : (r.take m).length = m := by rw [List.length_take]; have := HT.out.2.2.2.2.2; omega
    have hX7 : Txt w7 S a m c (r.take m) := H1.out.2.2.2.2.1.below H7.out.2 (fun b hb _ => by rw [← HG.out]; exact hb)
    have hsrc : 0 < (nums (r.take m)).length → (some (⟨G, 12, none⟩ : Addr) = some ⟨G, 12, none⟩) ∧ ∃ ad, a = some ad ∧ ∀ j v, (nums (r.take m))[j]? = some v → w7.cell? (ad.add j) = some v := fun h0 => by
      obtain ⟨b, off, ha, _, _, hrg⟩ := hX7.cells (by rw [nums_len, hxl] at h0; exact h0)
      exact ⟨rfl, ⟨b, off, none⟩, ha, fun j v hv => by rw [Addr.add_lit]; exact hrg j v hv⟩
    have hcl : (nums (r.take m)).length = Nat.min m 44 := by rw [nums_len, hxl]; show m = min m 44; omega
    have hfit : 12 + (nums (r.take m)).length ≤ (nums (fill3 life m 1)).length := by rw [nums_len, nums_len, hxl, fill3_len]; omega
    have HC := Lib.hid (And.intro hxl (And.intro hsrc (And.intro hcl hfit)))
    clear hxl hX7 hsrc hcl hfit hg8'
    go_upto_region 9 with (first | ((with_reducible show wpList _ _ _ ((⟨some 29, _, _, _, _, _⟩ : Oper) :: _) _ _); refine wpList_copy_splice rfl (.tmp 27) (.tmp 28) 37 37 rfl 5 Try.underlying37 infou8 (some ⟨G, 12, none⟩) a 44 52 m c rfl rfl G 12 (nums (fill3 life m 1)) 80 H7.out.1 (nums (r.take m)) HC.out.2.2.1 HC.out.2.1 HC.out.2.2.2 (nums_one _) G w1 H7.out.2 (Nat.le_refl _) ?_; intro w8 hg8 hb8) | fail)
    obtain ⟨x, hx⟩ : ∃ x, r.take m = x := ⟨_, rfl⟩
    have H8 : Hid (Whole w8 G 80 (nums (fill4 life 1 x)).toArray ∧ Below G w1 w8 ∧ x.length = m ∧ x.length ≤ 44) := Lib.hid (by
      have h := hg8.out
      have e := HC.out.1
      rw [hx] at h e
      have e2 := fill_4 life 1 x (by omega)
      rw [e] at e2
      rw [e2] at h
      exact ⟨h, hb8, e, by omega⟩)
    have HX := Lib.hid hx
    have c8 := KLH.out w8 hb8
    have hlu : IntKind.u64.wrap (life : Int) = (life : Int) := by rw [IntKind.wrap_u64]; omega
    clear hg8 hb8 hx H7
    refine wp_region_held_drew (S := fun w' => w'.cell? ⟨ql, 0, none⟩ = some (.int .i64 (life : Int))) (by kernel_rfl) c8 (fun hHeld => ?_)
    refine wpAnyH_take (i := 0) (v := .slice (some ⟨G, 56, none⟩) 8 8) rfl (by kernel_rfl) (by kernel_rfl) (by kernel_rfl) (fun _ _ _ h => h) (Or.inl ⟨by rfl, (by intro w hSw; (try dsimp only at hSw); go_simp)⟩) (by assumption) ?_
    try simp only [Act.put, List.getElem_toArray, List.getElem_cons_zero, List.getElem_cons_succ, List.setIfInBounds_toArray, List.set_cons_zero, List.set_cons_succ]
    refine wpAnyH_take (i := 1) (v := .int .i64 (life : Int)) rfl (by kernel_rfl) (by kernel_rfl) (by kernel_rfl) (fun _ _ _ h => h) (Or.inl ⟨by rfl, (by intro w hSw; (try dsimp only at hSw); go_simp)⟩) (by assumption) ?_
    try simp only [Act.put, List.getElem_toArray, List.getElem_cons_zero, List.getElem_cons_succ, List.setIfInBounds_toArray, List.set_cons_zero, List.set_cons_succ]
    refine wpAnyH_take (i := 2) (v := .int .u64 (life : Int)) rfl (by kernel_rfl) (by kernel_rfl) (by kernel_rfl) (fun _ _ _ h => h) (Or.inl ⟨by rfl, (by intro w hSw; (try dsimp only at hSw); go_simp)⟩) (by assumption) ?_
    try simp only [Act.put, List.getElem_toArray, List.getElem_cons_zero, List.getElem_cons_succ, List.setIfInBounds_toArray, List.set_cons_zero, List.set_cons_succ]
    have hg9 : Whole w8.drew G 80 (nums (fill4 life 1 x)).toArray := H8.out.1.keep rfl
    have L9 := jlay_any (off := 56) (k := 8) (c := 8) (n := life) hg9 (by rw [nums_len, fill4_len _ _ _ H8.out.2.2.2]; omega) (by omega) (by omega)
    rw [fill_5 life 1 x H8.out.2.2.2] at L9
    have HL9 := Lib.hid L9
    clear hlu hg9 L9
    refine wpAnyH_ready (rs := [3]) (by kernel_rfl) (by simp) (AllReadyH.cons rfl (fun K hK => ?_) AllReadyH.nil)
    try simp only [List.getElem_toArray, List.getElem_cons_zero, List.getElem_cons_succ]
    go_simp
    refine HL9.out.mono ?_
    rintro e w9 ⟨rfl, hg9, ho9⟩
    have hb9 : Below G w1 w9 := only_below (g := G) (b := w8) H8.out.2.1 (by have := H8.out.1.lt; omega) ⟨ho9.os, ho9.tape, ho9.output, ho9.size, ho9.block⟩ (Nat.le_refl _)
    have c9 := KLH.out w9 hb9
    have hk9 : Whole w9 w.heap.size 80 zb := H1.out.1.below hb9 (by rw [← HG.out]; exact H1.out.1.lt)
    have hbl : (blk1 x 1 life).length = 64 := blk1_len _ _ _ H8.out.2.2.2
    have H9 := Lib.hid (And.intro hg9 (And.intro hb9 (And.intro hk9 hbl)))
    clear hg9 ho9 hb9 HL9 hHeld c8 hk9 hbl
    go_wp2_with fail
    refine hK.out _ _ c9 (fun hHeld => ?_)
    clear hK K hHeld c9
    try simp only [Act.put, List.getElem_toArray, List.getElem_cons_zero, List.getElem_cons_succ, List.setIfInBounds_toArray, List.set_cons_zero, List.set_cons_succ]
    refine wpAnyH_done (by kernel_rfl) ?_ _
    go_wp2_with (first | ((with_reducible show wpList _ _ _ ((⟨_, Op.load 80 _, _, _, _, _⟩ : Oper) :: _) _ _); refine wpList_load_row rfl 80 (.tmp 4) rfl G rfl 80 (nums (blk1 x 1 life)).toArray (0, 0) _ H9.out.1 und_k rfl (info_kn H9.out.2.2.2) ?_) | ((with_reducible show wpList _ _ _ ((⟨_, Op.store 80 _ _, _, _, _, _⟩ : Oper) :: _) _ _); refine wpList_store_row rfl 80 (.tmp 2) (.tmp 34) rfl w.heap.size (nums (blk1 x 1 life)).toArray rfl rfl 80 zb H9.out.2.2.1 (info_kn H9.out.2.2.2) (size_bn H9.out.2.2.2) (all_nums _) ?_) | fail)
    refine bodyPost_ret (results_one_cell rfl _ _ _ _ rfl (run_loadVar_row _ _ _ _ _ (0, 0) _ (H9.out.2.2.1.row (nums (blk1 x 1 life)).toArray) und_k rfl (info_kn H9.out.2.2.2))) rfl ?_
    exact Handed.mk HX.out HT.out.2.2.2.2.2 HM.out (by rw [if_pos hn]) (KF.out w9 H9.out.2.1 _).1 (KF.out w9 H9.out.2.1 _).2.1 (KF.out w9 H9.out.2.1 _).2.2
  · have q1 : ¬ ((n - m : Nat) : Int) = 0 := by have := HM.out; omega
    have q1' : ¬ n - m = 0 := by omega
    have q2 : (((n - m : Nat) : Int) == 0) = false := by simp; omega
    go_upto_region 8 with fail
    obtain ⟨w7, hw7⟩ : ∃ w7, w7 = w6 := ⟨_, rfl⟩
    subst hw7
    have H7 : Hid (Whole w7 G 80 (nums (fill3 life m 0)).toArray ∧ Below G w1 w7) := Lib.hid (by rw [fill_3]; exact H6.out)
    clear cq6 hgr6 hfz6 H6 q1 q1' q2
    have hg8' : w7.cell? ⟨G, 10, none⟩ = w7.cell? ⟨G, 10, none⟩ := rfl
    have hxl : (r.take m).length = m := by rw [List.length_take]; have := HT.out.2.2.2.2.2; omega
    have hX7 : Txt w7 S a m c (r.take m) := H1.out.2.2.2.2.1.below H7.out.2 (fun b hb _ => by rw [← HG.out]; exact hb)
    have hsrc : 0 < (nums (r.take m)).length → (some (⟨G, 12, none⟩ : Addr) = some ⟨G, 12, none⟩) ∧ ∃ ad, a = some ad ∧ ∀ j v, (nums (r.take m))[j]? = some v → w7.cell? (ad.add j) = some v := fun h0 => by
      obtain ⟨b, off, ha, _, _, hrg⟩ := hX7.cells (by rw [nums_len, hxl] at h0; exact h0)
      exact ⟨rfl, ⟨b, off, none⟩, ha, fun j v hv => by rw [Addr.add_lit]; exact hrg j v hv⟩
    have hcl : (nums (r.take m)).length = Nat.min m 44 := by rw [nums_len, hxl]; show m = min m 44; omega
    have hfit : 12 + (nums (r.take m)).length ≤ (nums (fill3 life m 0)).length := by rw [nums_len, nums_len, hxl, fill3_len]; omega
    have HC := Lib.hid (And.intro hxl (And.intro hsrc (And.intro hcl hfit)))
    clear hxl hX7 hsrc hcl hfit hg8'
    go_upto_region 9 with (first | ((with_reducible show wpList _ _ _ ((⟨some 29, _, _, _, _, _⟩ : Oper) :: _) _ _); refine wpList_copy_splice rfl (.tmp 27) (.tmp 28) 37 37 rfl 5 Try.underlying37 infou8 (some ⟨G, 12, none⟩) a 44 52 m c rfl rfl G 12 (nums (fill3 life m 0)) 80 H7.out.1 (nums (r.take m)) HC.out.2.2.1 HC.out.2.1 HC.out.2.2.2 (nums_one _) G w1 H7.out.2 (Nat.le_refl _) ?_; intro w8 hg8 hb8) | fail)
    obtain ⟨x, hx⟩ : ∃ x, r.take m = x := ⟨_, rfl⟩
    have H8 : Hid (Whole w8 G 80 (nums (fill4 life 0 x)).toArray ∧ Below G w1 w8 ∧ x.length = m ∧ x.length ≤ 44) := Lib.hid (by
      have h := hg8.out
      have e := HC.out.1
      rw [hx] at h e
      have e2 := fill_4 life 0 x (by omega)
      rw [e] at e2
      rw [e2] at h
      exact ⟨h, hb8, e, by omega⟩)
    have HX := Lib.hid hx
    have c8 := KLH.out w8 hb8
    have hlu : IntKind.u64.wrap (life : Int) = (life : Int) := by rw [IntKind.wrap_u64]; omega
    clear hg8 hb8 hx H7
    refine wp_region_held_drew (S := fun w' => w'.cell? ⟨ql, 0, none⟩ = some (.int .i64 (life : Int))) (by kernel_rfl) c8 (fun hHeld => ?_)
    refine wpAnyH_take (i := 0) (v := .slice (some ⟨G, 56, none⟩) 8 8) rfl (by kernel_rfl) (by kernel_rfl) (by kernel_rfl) (fun _ _ _ h => h) (Or.inl ⟨by rfl, (by intro w hSw; (try dsimp only at hSw); go_simp)⟩) (by assumption) ?_
    try simp only [Act.put, List.getElem_toArray, List.getElem_cons_zero, List.getElem_cons_succ, List.setIfInBounds_toArray, List.set_cons_zero, List.set_cons_succ]
    refine wpAnyH_take (i := 1) (v := .int .i64 (life : Int)) rfl (by kernel_rfl) (by kernel_rfl) (by kernel_rfl) (fun _ _ _ h => h) (Or.inl ⟨by rfl, (by intro w hSw; (try dsimp only at hSw); go_simp)⟩) (by assumption) ?_
    try simp only [Act.put, List.getElem_toArray, List.getElem_cons_zero, List.getElem_cons_succ, List.setIfInBounds_toArray, List.set_cons_zero, List.set_cons_succ]
    refine wpAnyH_take (i := 2) (v := .int .u64 (life : Int)) rfl (by kernel_rfl) (by kernel_rfl) (by kernel_rfl) (fun _ _ _ h => h) (Or.inl ⟨by rfl, (by intro w hSw; (try dsimp only at hSw); go_simp)⟩) (by assumption) ?_
    try simp only [Act.put, List.getElem_toArray, List.getElem_cons_zero, List.getElem_cons_succ, List.setIfInBounds_toArray, List.set_cons_zero, List.set_cons_succ]
    have hg9 : Whole w8.drew G 80 (nums (fill4 life 0 x)).toArray := H8.out.1.keep rfl
    have L9 := jlay_any (off := 56) (k := 8) (c := 8) (n := life) hg9 (by rw [nums_len, fill4_len _ _ _ H8.out.2.2.2]; omega) (by omega) (by omega)
    rw [fill_5 life 0 x H8.out.2.2.2] at L9
    have HL9 := Lib.hid L9
    clear hlu hg9 L9
    refine wpAnyH_ready (rs := [3]) (by kernel_rfl) (by simp) (AllReadyH.cons rfl (fun K hK => ?_) AllReadyH.nil)
    try simp only [List.getElem_toArray, List.getElem_cons_zero, List.getElem_cons_succ]
    go_simp
    refine HL9.out.mono ?_
    rintro e w9 ⟨rfl, hg9, ho9⟩
    have hb9 : Below G w1 w9 := only_below (g := G) (b := w8) H8.out.2.1 (by have := H8.out.1.lt; omega) ⟨ho9.os, ho9.tape, ho9.output, ho9.size, ho9.block⟩ (Nat.le_refl _)
    have c9 := KLH.out w9 hb9
    have hk9 : Whole w9 w.heap.size 80 zb := H1.out.1.below hb9 (by rw [← HG.out]; exact H1.out.1.lt)
    have hbl : (blk1 x 0 life).length = 64 := blk1_len _ _ _ H8.out.2.2.2
    have H9 := Lib.hid (And.intro hg9 (And.intro hb9 (And.intro hk9 hbl)))
    clear hg9 ho9 hb9 HL9 hHeld c8 hk9 hbl
    go_wp2_with fail
    refine hK.out _ _ c9 (fun hHeld => ?_)
    clear hK K hHeld c9
    try simp only [Act.put, List.getElem_toArray, List.getElem_cons_zero, List.getElem_cons_succ, List.setIfInBounds_toArray, List.set_cons_zero, List.set_cons_succ]
    refine wpAnyH_done (by kernel_rfl) ?_ _
    go_wp2_with (first | ((with_reducible show wpList _ _ _ ((⟨_, Op.load 80 _, _, _, _, _⟩ : Oper) :: _) _ _); refine wpList_load_row rfl 80 (.tmp 4) rfl G rfl 80 (nums (blk1 x 0 life)).toArray (0, 0) _ H9.out.1 und_k rfl (info_kn H9.out.2.2.2) ?_) | ((with_reducible show wpList _ _ _ ((⟨_, Op.store 80 _ _, _, _, _, _⟩ : Oper) :: _) _ _); refine wpList_store_row rfl 80 (.tmp 2) (.tmp 34) rfl w.heap.size (nums (blk1 x 0 life)).toArray rfl rfl 80 zb H9.out.2.2.1 (info_kn H9.out.2.2.2) (size_bn H9.out.2.2.2) (all_nums _) ?_) | fail)
    refine bodyPost_ret (results_one_cell rfl _ _ _ _ rfl (run_loadVar_row _ _ _ _ _ (0, 0) _ (H9.out.2.2.1.row (nums (blk1 x 0 life)).toArray) und_k rfl (info_kn H9.out.2.2.2))) rfl ?_
    exact Handed.mk HX.out HT.out.2.2.2.2.2 HM.out (by rw [if_neg hn]) (KF.out w9 H9.out.2.1 _).1 (KF.out w9 H9.out.2.1 _).2.1 (KF.out w9 H9.out.2.1 _).2.2
end Go.Proofs.Ytfecobkpdmjaeaa
