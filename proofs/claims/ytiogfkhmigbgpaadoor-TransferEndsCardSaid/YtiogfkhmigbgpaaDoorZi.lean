/-
  Digests in memory, and the walk of add.
  The walks of noughts and stateBytes.
  The walk of end.
  Texts in parts, and the walk of Sum.
  The walks of changed and keyBlock.
  The walk of Code.
  Powers of two, trees of digests, digests in a slice; the walks of Len64, Len, powerBelow.
-/
import Derived.Test.YtiogfkhmigbgpaaDoorZh
import Derived.Deep.RegionHeld3
import Derived.Deep.Cut
import Derived.Laws.MathBits
namespace Go.Proofs.YtiogfkhmigbgpaaDoor
set_option maxRecDepth 20000
open Go.RowKit
/-- The cells of a digest. -/
def dcells (s : Sm.St) (bf : List Int) (n : Nat) : List Value := wds s.l ++ (nums bf ++ [.int .u64 (n : Int)])
/-- The digest at block g was told l. -/
def Dg (w : World) (g : Nat) (l : List Int) : Prop := ∃ bf, Byt bf ∧ Sm.InBlock bf l ∧ Whole w g 73 (dcells (Sm.st l) bf l.length).toArray
theorem dcells_size (s : Sm.St) (bf : List Int) (n : Nat) (h : bf.length = 64) : (dcells s bf n).length = 73 := by simp [dcells, wds_len, nums_len, h, Sm.St.l]
theorem dcells_72 (s : Sm.St) (bf : List Int) (n : Nat) (h : bf.length = 64) : (dcells s bf n)[72]? = some (.int .u64 (n : Int)) := by
  have e : (wds s.l).length = 8 := rfl
  unfold dcells
  rw [List.getElem?_append_right (by rw [e]; omega), e, List.getElem?_append_right (by rw [nums_len]; omega), nums_len, h]
  rfl
theorem infou8 : (Tryd.prog.info? 5).map (·.size) = some 1 := by kernel_rfl
theorem dcells_splice (s : Sm.St) (bf x : List Int) (n r : Nat) {j : Nat} (h : bf.length = 64) (hx : x.length = j) (hr : r + j ≤ 64) :
    (List.take (8 + r) (dcells s bf n) ++ (nums x ++ List.drop (8 + r + j) (dcells s bf n))).toArray = (dcells s (Sm.laid bf r x) n).toArray := by
  have e : (wds s.l).length = 8 := rfl
  unfold dcells Sm.laid
  rw [List.take_append, List.drop_append, e, List.take_of_length_le (by omega), List.drop_eq_nil_of_le (by omega), Nat.add_sub_cancel_left, show 8 + r + j - 8 = r + j by omega]
  rw [List.take_append_of_le_length (by rw [nums_len]; omega), List.drop_append_of_le_length (by rw [nums_len]; omega)]
  simp [nums_append, nums_take, nums_drop, hx]
theorem dcells_set (s : Sm.St) (bf : List Int) (n m : Nat) (h : bf.length = 64) : (dcells s bf n).toArray.setIfInBounds 72 (.int .u64 ((n : Int) + (m : Int))) = (dcells s bf (n + m)).toArray := by
  have e : (wds s.l).length = 8 := rfl
  unfold dcells
  rw [List.setIfInBounds_toArray]
  congr 1
  rw [List.set_append_right _ _ (by rw [e]; omega), e, List.set_append_right _ _ (by rw [nums_len]; omega), nums_len, h]
  rfl
theorem grown_trans {a b c : World} {row : Option Nat} (h : a.grownBy b row) (h' : b.grownBy c row) : a.grownBy c row :=
  ⟨h'.os.trans h.os, h'.tape.trans h.tape, h'.output.trans h.output, Nat.le_trans h.size h'.size, fun k hk hne => (h'.block k (Nat.lt_of_lt_of_le hk h.size) hne).trans (h.block k hk hne)⟩
theorem grown_set {a b : World} {g : Nat} (h : a.grownBy b (some g)) (i : Nat) (v : Value) : a.grownBy (b.setCell ⟨g, i, none⟩ v) (some g) :=
  grown_trans h ⟨rfl, rfl, rfl, by simp [World.setCell], fun k _ hne => Below.heap_setCell b ⟨g, i, none⟩ v k (fun e => hne (by rw [e]))⟩
theorem range_st {w : World} {g : Nat} {s : Sm.St} {bf : List Int} {n : Nat} (h : Whole w g 73 (dcells s bf n).toArray) : w.rangeAt g 0 (wds s.l) := fun i v hv => by
  have hi : i < (wds s.l).length := (List.getElem?_eq_some_iff.1 hv).1
  rw [Nat.zero_add, h.cell, List.getElem?_toArray]
  unfold dcells
  rw [List.getElem?_append_left hi]; exact hv
theorem range_bf {w : World} {g : Nat} {s : Sm.St} {bf : List Int} {n : Nat} (h : Whole w g 73 (dcells s bf n).toArray) : w.rangeAt g 8 (nums bf) := fun i v hv => by
  have hi : i < (nums bf).length := (List.getElem?_eq_some_iff.1 hv).1
  have e : (wds s.l).length = 8 := rfl
  rw [h.cell, List.getElem?_toArray]
  unfold dcells
  rw [List.getElem?_append_right (by omega), e, Nat.add_sub_cancel_left, List.getElem?_append_left hi]; exact hv
theorem slice_from {a : Option Addr} {m c j : Nat} (h1 : j ≤ m) (w : World) : (Instr.slice 35 (.slice a m c) (some (.int .i64 (j : Int))) none none).run Tryd.prog w = .ok (.slice (if c = j then a else a.map (·.add j)) (m - j) (c - j)) w := by
  have hz : (sizeOf 5).run Tryd.prog w = .ok 1 w := by
    cases hq : Tryd.prog.info? 5 with
    | none => have := infou8; rw [hq] at this; cases this
    | some i =>
      have := infou8
      rw [hq] at this
      simp only [Option.map_some, Option.some.injEq] at this
      simp [sizeOf, typeInfo, hq, this]
  have hb : (0 : Int) ≤ (j : Int) ∧ (j : Int) ≤ (m : Int) := by omega
  simp only [Instr.slice, Instr.sliceBounds, Instr.sliceBound, Sem.run_bind, Sem.run_pure, Result.andThen_ok, run_underlying Tryd.underlying35, asIntOf, if_pos hb, hz, Int.toNat_natCast, Nat.mul_one]
theorem if_wanted {c : Bool} {p q : Prop} (h : c = true) (hp : p) : if c = true then p else q := by rw [if_pos h]; exact hp
theorem run_store_part {P : Program} (w : World) (g o : Nat) (n ty : TypeId) (cur cells : List Value) (hg : Whole w g n cur.toArray) (hi : (P.info? ty).map (·.size) = some cells.length) (h1 : ∀ v ∈ cells, v.oneCell' = true) (hf : o + cells.length ≤ cur.length) :
    (storeVar ty ⟨g, o, none⟩ (.agg cells.toArray)).run P w = .ok () (w.setRow g (splice cur o cells).toArray) := by
  have := run_storeCells_at (P := P) g o n cells 0 cur.toArray w hg (by simp; omega) h1
  cases hq : P.info? ty with
  | none => simp [hq] at hi
  | some i =>
    have hs : cells.length = i.size := by simp [hq] at hi; omega
    simp only [Nat.add_zero] at this
    simp [storeVar, sizeOf, typeInfo, hq, Value.cells, hs, this, splice]
theorem wp_store_part {P : Program} {op : Oper} {a : Act} {w : World} {K : Act → World → Prop} {Q : Exit → Act → World → Prop} {n : TypeId} {cur : List Value} (ty : TypeId) (x y : Operand) (ho : op.op = .store ty x y)
    (g o : Nat) (cells : List Value) (hx : a.eval x = .pointer (some ⟨g, o, none⟩)) (hy : a.eval y = .agg cells.toArray)
    (hg : Whole w g n cur.toArray) (hi : (P.info? ty).map (·.size) = some cells.length) (h1 : ∀ v ∈ cells, v.oneCell' = true) (hf : o + cells.length ≤ cur.length)
    (h : K (a.put op.dst undef) (w.setRow g (splice cur o cells).toArray)) : Oper.wp P op a w K Q := by
  unfold Oper.wp execOp
  simp only [ho, hx, hy, Instr.storeAt, Instr.sureAddr, Sem.run_bind, Sem.run_pure, Result.andThen_ok, run_store_part w g o n ty cur cells hg hi h1 hf]
  exact h
theorem dcells_state (s s' : Sm.St) (bf : List Int) (n : Nat) : (splice (dcells s bf n) 0 (wds s'.l)) = dcells s' bf n := by
  have e : (wds s.l).length = 8 := rfl
  have e' : (wds s'.l).length = 8 := rfl
  unfold splice dcells
  rw [List.take_zero, List.nil_append, e', Nat.zero_add, List.drop_append_of_le_length (by omega), List.drop_eq_nil_of_le (by omega), List.nil_append]
theorem grown_below {a b : World} {row : Option Nat} (h : Below a.heap.size a b) : a.grownBy b row := ⟨h.os, h.tape, h.output, h.size, fun k hk _ => h.block k hk⟩
theorem grown_row (w : World) (g : Nat) (cs : Array Value) : w.grownBy (w.setRow g cs) (some g) := ⟨rfl, rfl, rfl, by simp [World.setRow], fun i _ hne => setRow_other w g i _ (fun e => hne (by rw [e]))⟩
set_option linter.unusedSimpArgs false in
set_option maxHeartbeats 2000000 in
theorem add_any {g : Nat} {l t : List Int} {a : Option Addr} {n c : Nat} {w : World} (h : Dg w g l) (hR : Roots w) (hg : 2 ≤ g) (ht : Txt w (· ≠ g) a n c t) (hsz : l.length + n ≤ 1000000) :
    Calls Tryd.prog 42 #[.pointer (some ⟨g, 0, none⟩), .slice a n c] w fun e w' => e = .returned (.tuple #[]) ∧ Dg w' g (l ++ t) ∧ w.grownBy w' (some g) := by
  have H0 : Hid (Dg w g l ∧ Txt w (· ≠ g) a n c t) := Lib.hid ⟨h, ht⟩
  have HR := Lib.hid hR
  have HT : Hid (t.length = n) := Lib.hid ht.1
  clear h ht hR
  go_enter Tryd.func42, Tryd.ntmps42
  go_wp2
  go_loopw [1] (fun v wr => ∃ k a' c', k ≤ n ∧ v = .slice a' (n - k) c' ∧ Hid (Dg wr g (l ++ t.take k) ∧ Txt wr (· ≠ g) a' (n - k) c' (t.drop k) ∧ w.grownBy wr (some g))) (fun v _ => match v with | .slice _ m _ => m | _ => 0)
  case atStart => exact ⟨0, a, c, Nat.zero_le _, rfl, Lib.hid ⟨by simpa using H0.out.1, by simpa using H0.out.2, World.grownBy.refl _ _⟩⟩
  case round =>
    clear H0
    obtain ⟨k, a', c', hk, rfl, HB⟩ := hrel
    by_cases hlt : k < n
    · have hpos : 0 < n - k := by omega
      obtain ⟨m, hm⟩ : ∃ m, n - k = m := ⟨_, rfl⟩
      rw [hm] at HB hpos
      rw [hm]
      have HM := Lib.hid hm
      clear hm
      obtain ⟨⟨bf, hby, hin, hw⟩, htx, hgr⟩ := HB.out
      have hbl := hin.1
      obtain ⟨L, hL⟩ : ∃ L, l ++ t.take k = L := ⟨_, rfl⟩
      rw [hL] at hw hin
      obtain ⟨N, hN⟩ : ∃ N, L.length = N := ⟨_, rfl⟩
      rw [hN] at hw
      have hNs : N + m ≤ 1000000 := by
        rw [← hN, ← hL, List.length_append, List.length_take, HT.out]
        have := HM.out
        omega
      have c72 : wr.cell? ⟨g, 72, none⟩ = some (.int .u64 (N : Int)) := (hw.cell 72).trans (by rw [List.getElem?_toArray]; exact dcells_72 _ _ _ hbl)
      have HL := Lib.hid hL
      have HN := Lib.hid hN
      have HW := Lib.hid (And.intro hby (And.intro hin (And.intro hw (And.intro htx hgr))))
      clear hL hN hby hin hw htx hgr HB
      have hd : decide ((0 : Int) < (m : Int)) = true := by simp; omega
      obtain ⟨r, hr⟩ : ∃ r, N % 64 = r := ⟨_, rfl⟩
      have hmod : ((N : Int)).tmod 64 = (r : Int) := by rw [← hr]; rfl
      have hr64 : r < 64 := by omega
      have HRR := Lib.hid hr
      clear hr
      have q0 : (r : Int) ≤ 64 := by omega
      have q1 : ¬ (64 = r) := by omega
      have q2 : r ≤ 64 := by omega
      go_wp2
      go_still_tail 10, (by kernel_rfl)
      change wpList _ _ _ _ _ wr.drew
      obtain ⟨b, off, rfl, hbg, hblt, hrg⟩ := HW.out.2.2.2.1.cells hpos
      obtain ⟨j, hj⟩ : ∃ j, Nat.min m (64 - r) = j := ⟨_, rfl⟩
      obtain ⟨x, hx⟩ : ∃ x, (t.drop k).take j = x := ⟨_, rfl⟩
      have hj' : j = min m (64 - r) := hj.symm
      have hj1 : j ≤ m := by omega
      have hj2 : r + j ≤ 64 := by omega
      have hj0 : 0 < j := by omega
      have hxl : x.length = j := by
        rw [← hx, List.length_take, List.length_drop, HT.out, HM.out]; omega
      have hxb : Byt x := by rw [← hx]; exact byt_take HW.out.2.2.2.1.2.2.1 j
      have hsrc : ∀ i v, (nums x)[i]? = some v → wr.drew.cell? ((⟨b, off, none⟩ : Addr).add i) = some v := by
        intro i v hv
        rw [Addr.add_lit]
        refine hrg i v ?_
        have hi : i < x.length := by have := (List.getElem?_eq_some_iff.1 hv).1; rwa [nums_len] at this
        rw [← hx, nums_take, List.getElem?_take, if_pos (by omega)] at hv
        exact hv
      have HX := Lib.hid (And.intro hx (And.intro hxl (And.intro hxb hj')))
      clear hx hxb hj'
      refine wpList_copy_own rfl (.tmp 16) (.tmp 17) 35 35 rfl 5 Tryd.underlying35 infou8 g (8 + r) (64 - r) (64 - r) ⟨b, off, none⟩ m c' rfl rfl (dcells (Sm.st L) bf N).toArray 73 HW.out.2.2.1 (nums x) (by rw [nums_len, hxl]; exact hj.symm) hsrc (by rw [nums_len, hxl, List.size_toArray, dcells_size _ _ _ hbl]; omega) (nums_one x) ?_
      rw [nums_len, hxl, dcells_splice (Sm.st L) bf x N r hbl hxl hj2]
      have hw1 : Whole (wr.drew.setRow g (dcells (Sm.st L) (Sm.laid bf r x) N).toArray) g 73 (dcells (Sm.st L) (Sm.laid bf r x) N).toArray := Whole.row (cs := (dcells (Sm.st L) bf N).toArray) HW.out.2.2.1 _
      have hg1 : wr.grownBy (wr.drew.setRow g (dcells (Sm.st L) (Sm.laid bf r x) N).toArray) (some g) := ⟨rfl, rfl, rfl, by simp [World.setRow], fun i _ hne => setRow_other wr g i _ (fun e => hne (by rw [e]))⟩
      generalize wr.drew.setRow g (dcells (Sm.st L) (Sm.laid bf r x) N).toArray = w1 at *
      have hbl2 : (Sm.laid bf r x).length = 64 := Sm.laid_len hbl (by omega)
      have d72 : w1.cell? ⟨g, 72, none⟩ = some (.int .u64 (N : Int)) := (hw1.cell 72).trans (by rw [List.getElem?_toArray]; exact dcells_72 _ _ _ hbl2)
      have f72 : w1.frozen? ⟨g, 72, none⟩ = false := hw1.frozen 72
      have HW1 := Lib.hid (And.intro hw1 hg1)
      clear hw1 hg1 hsrc c72 hj hrg hmod q0 q1 q2
      have hcj : j ≤ c' := by have := HW.out.2.2.2.1.2.1; omega
      obtain ⟨A, hsl, htn⟩ : ∃ A, (∀ w, (Instr.slice 35 (.slice (some ⟨b, off, none⟩) m c') (some (.int .i64 (j : Int))) none none).run Tryd.prog w = .ok (.slice A (m - j) (c' - j)) w) ∧ Hid (Txt wr (· ≠ g) A (m - j) (c' - j) ((t.drop k).drop j)) :=
        ⟨_, slice_from hj1, Lib.hid (HW.out.2.2.2.1.drop j hj1)⟩
      have hw2 : Whole (w1.setCell ⟨g, 72, none⟩ (.int .u64 ((N : Int) + (j : Int)))) g 73 (dcells (Sm.st L) (Sm.laid bf r x) (N + j)).toArray := by
        have := HW1.out.1.set 72 (.int .u64 ((N : Int) + (j : Int)))
        rw [dcells_set _ _ _ _ hbl2] at this
        exact this
      have hg2 : wr.grownBy (w1.setCell ⟨g, 72, none⟩ (.int .u64 ((N : Int) + (j : Int)))) (some g) := grown_set HW1.out.2 _ _
      have HW2 := Lib.hid (And.intro hw2 hg2)
      clear hw2 hg2
      have hrl : Hid (r = L.length % 64) := Lib.hid (by rw [HN.out]; exact HRR.out.symm)
      have hLx : Hid (L ++ x = l ++ t.take (k + j)) := Lib.hid (by rw [← HL.out, ← HX.out.1, List.append_assoc, List.take_add])
      have hdd : Hid ((t.drop k).drop j = t.drop (k + j)) := Lib.hid (by rw [List.drop_drop])
      have hnk : Hid (m - j = n - (k + j)) := Lib.hid (by have := HM.out; omega)
      have HBY : Hid (Byt (Sm.laid bf r x)) := Lib.hid (byt_append (byt_take HW.out.1 r) (byt_append HX.out.2.2.1 (byt_drop HW.out.1 _)))
      by_cases hfull : r + j = 64
      · have he : (((N : Int) + (j : Int)) % 64 == 0) = true := by rw [beq_iff_eq]; have := HRR.out; omega
        have HIN : Hid (Sm.InBlock (Sm.laid bf r x) (L ++ x) ∧ Sm.st (L ++ x) = Sm.mix (Sm.st L) (Sm.laid bf r x)) := Lib.hid (by have := Sm.inBlock_full (x := x) HW.out.2.1 (by rw [← hrl.out, hxl]; exact hfull); rw [← hrl.out] at this; exact this)
        go_wp2
        generalize w1.setCell ⟨g, 72, none⟩ (.int .u64 ((N : Int) + (j : Int))) = w2 at *
        have r0 : w2.drew.rangeAt g 0 (wds (Sm.st L).l) := range_st HW2.out.1
        have r8 : w2.drew.rangeAt g 8 (nums (Sm.laid bf r x)) := range_bf HW2.out.1
        have hz2 : g < w2.drew.heap.size := HW2.out.1.lt
        have HR2 : Hid (Roots w2.drew) := Lib.hid (Roots.keep (w := w2) (HR.out.grown (grown_trans HW.out.2.2.2.2 HW2.out.2) (fun b e => by injection e with e; omega)) (fun _ _ => rfl))
        refine wp_region_held_drew (S := fun _ => True) (by kernel_rfl) trivial (fun hHeld => ?_)
        refine wpAnyH_take (i := 0) (v := .pointer (some ⟨g, 0, none⟩)) rfl (by kernel_rfl) (by kernel_rfl) (by kernel_rfl) (fun _ _ _ h => h) (Or.inl ⟨by rfl, (by intro w hSw; (try dsimp only at hSw); go_simp)⟩) (by assumption) ?_
        try simp only [Act.put, List.getElem_toArray, List.getElem_cons_zero, List.getElem_cons_succ, List.setIfInBounds_toArray, List.set_cons_zero, List.set_cons_succ]
        refine wpAnyH_take (i := 1) (v := .pointer (some ⟨g, 0, none⟩)) rfl (by kernel_rfl) (by kernel_rfl) (by kernel_rfl) (fun _ _ _ h => h) (Or.inl ⟨by rfl, (by intro w hSw; (try dsimp only at hSw); go_simp)⟩) (by assumption) ?_
        try simp only [Act.put, List.getElem_toArray, List.getElem_cons_zero, List.getElem_cons_succ, List.setIfInBounds_toArray, List.set_cons_zero, List.set_cons_succ]
        refine wpAnyH_take (i := 2) (v := .pointer (some ⟨g, 0, none⟩)) rfl (by kernel_rfl) (by kernel_rfl) (by kernel_rfl) (fun _ _ _ h => h) (Or.inl ⟨by rfl, (by intro w hSw; (try dsimp only at hSw); go_simp)⟩) (by assumption) ?_
        try simp only [Act.put, List.getElem_toArray, List.getElem_cons_zero, List.getElem_cons_succ, List.setIfInBounds_toArray, List.set_cons_zero, List.set_cons_succ]
        refine wpAnyH_take (i := 3) (v := .pointer (some ⟨g, 0, none⟩)) rfl (by kernel_rfl) (by kernel_rfl) (by kernel_rfl) (fun _ _ _ h => h) (Or.inl ⟨by rfl, (by intro w hSw; (try dsimp only at hSw); go_simp)⟩) (by assumption) ?_
        try simp only [Act.put, List.getElem_toArray, List.getElem_cons_zero, List.getElem_cons_succ, List.setIfInBounds_toArray, List.set_cons_zero, List.set_cons_succ]
        refine wpAnyH_take (i := 5) (v := .pointer (some ⟨g, 0, none⟩)) rfl (by kernel_rfl) (by kernel_rfl) (by kernel_rfl) (fun _ _ _ h => h) (Or.inl ⟨by rfl, (by intro w hSw; (try dsimp only at hSw); go_simp)⟩) (by assumption) ?_
        try simp only [Act.put, List.getElem_toArray, List.getElem_cons_zero, List.getElem_cons_succ, List.setIfInBounds_toArray, List.set_cons_zero, List.set_cons_succ]
        refine wpAnyH_take (i := 6) (v := .pointer (some ⟨g, 0, none⟩)) rfl (by kernel_rfl) (by kernel_rfl) (by kernel_rfl) (fun _ _ _ h => h) (Or.inl ⟨by rfl, (by intro w hSw; (try dsimp only at hSw); go_simp)⟩) (by assumption) ?_
        try simp only [Act.put, List.getElem_toArray, List.getElem_cons_zero, List.getElem_cons_succ, List.setIfInBounds_toArray, List.set_cons_zero, List.set_cons_succ]
        refine wpAnyH_take (i := 7) (v := .pointer (some ⟨g, 8, none⟩)) rfl (by kernel_rfl) (by kernel_rfl) (by kernel_rfl) (fun _ _ _ h => h) (Or.inl ⟨by rfl, (by intro w hSw; (try dsimp only at hSw); go_simp)⟩) (by assumption) ?_
        try simp only [Act.put, List.getElem_toArray, List.getElem_cons_zero, List.getElem_cons_succ, List.setIfInBounds_toArray, List.set_cons_zero, List.set_cons_succ]
        refine wpAnyH_ready (rs := [4, 8]) (by kernel_rfl) (by simp) (AllReadyH.cons rfl (fun K hK => ?_) (AllReadyH.cons rfl (fun K hK => ?_) AllReadyH.nil))
        · try simp only [List.getElem_toArray, List.getElem_cons_zero, List.getElem_cons_succ]
          refine if_wanted (by rfl) ?_
          refine wp_load_mid _ _ rfl _ _ rfl _ _ r0 undW8 rfl (by rw [wds_len]; exact infoW8) ?_
          refine hK.out _ _ trivial (fun hHeld => ?_)
          clear hK K
          try simp only [Act.put, List.getElem_toArray, List.getElem_cons_zero, List.getElem_cons_succ, List.setIfInBounds_toArray, List.set_cons_zero, List.set_cons_succ]
          refine wpAnyH_ready (rs := [8]) (by kernel_rfl) (by simp) (AllReadyH.cons rfl (fun K hK => ?_) AllReadyH.nil)
          try simp only [List.getElem_toArray, List.getElem_cons_zero, List.getElem_cons_succ]
          refine if_wanted (by rfl) ?_
          refine wp_load_mid _ _ rfl _ _ rfl _ _ r8 undB64 rfl (by rw [nums_len, hbl2]; exact infoB64) ?_
          refine hK.out _ _ trivial (fun hHeld => ?_)
          clear hK K
          try simp only [Act.put, List.getElem_toArray, List.getElem_cons_zero, List.getElem_cons_succ, List.setIfInBounds_toArray, List.set_cons_zero, List.set_cons_succ]
          refine wpAnyH_ready (rs := [9]) (by kernel_rfl) (by simp) (AllReadyH.cons rfl (fun K hK => ?_) AllReadyH.nil)
          try simp only [List.getElem_toArray, List.getElem_cons_zero, List.getElem_cons_succ]
          go_simp
          go_at_call 46
          refine (mixed_any (Sm.st L) (Sm.laid bf r x) w2.drew HR2.out HBY.out hbl2).mono ?_
          rintro e w3 ⟨rfl, hb3⟩
          have hw3 : Whole w3 g 73 (dcells (Sm.st L) (Sm.laid bf r x) (N + j)).toArray := Whole.below (w := w2.drew) HW2.out.1 hb3 hz2
          have HB3 : Hid (Below w2.heap.size w2 w3) := Lib.hid (below_drew hb3)
          have HW3 := Lib.hid hw3
          clear hb3 hw3 r0 r8
          go_wp2_with fail
          refine hK.out _ _ trivial (fun hHeld => ?_)
          clear hK K
          try simp only [Act.put, List.getElem_toArray, List.getElem_cons_zero, List.getElem_cons_succ, List.setIfInBounds_toArray, List.set_cons_zero, List.set_cons_succ]
          refine wpAnyH_take (i := 10) (v := .pointer (some ⟨g, 0, none⟩)) rfl (by kernel_rfl) (by kernel_rfl) (by kernel_rfl) (fun _ _ _ h => h) (Or.inl ⟨by rfl, (by intro w hSw; (try dsimp only at hSw); go_simp)⟩) (by assumption) ?_
          try simp only [Act.put, List.getElem_toArray, List.getElem_cons_zero, List.getElem_cons_succ, List.setIfInBounds_toArray, List.set_cons_zero, List.set_cons_succ]
          refine wpAnyH_take (i := 11) (v := .pointer (some ⟨g, 0, none⟩)) rfl (by kernel_rfl) (by kernel_rfl) (by kernel_rfl) (fun _ _ _ h => h) (Or.inl ⟨by rfl, (by intro w hSw; (try dsimp only at hSw); go_simp)⟩) (by assumption) ?_
          try simp only [Act.put, List.getElem_toArray, List.getElem_cons_zero, List.getElem_cons_succ, List.setIfInBounds_toArray, List.set_cons_zero, List.set_cons_succ]
          refine wpAnyH_ready (rs := [12]) (by kernel_rfl) (by simp) (AllReadyH.cons rfl (fun K hK => ?_) AllReadyH.nil)
          try simp only [List.getElem_toArray, List.getElem_cons_zero, List.getElem_cons_succ]
          refine if_wanted (by rfl) ?_
          refine wp_store_part (n := 73) _ _ _ rfl g 0 (wds (Sm.mix (Sm.st L) (Sm.laid bf r x)).l) rfl rfl HW3.out (by rw [wds_len]; exact infoW8) (wds_one _) (by rw [wds_len, dcells_size _ _ _ hbl2]; show 8 ≤ 73; omega) ?_
          refine hK.out _ _ trivial (fun hHeld => ?_)
          clear hK K
          try simp only [Act.put, List.getElem_toArray, List.getElem_cons_zero, List.getElem_cons_succ, List.setIfInBounds_toArray, List.set_cons_zero, List.set_cons_succ]
          refine wpAnyH_done (by kernel_rfl) ?_ _
          rw [dcells_state]
          have hw4 := HW3.out.row (dcells (Sm.mix (Sm.st L) (Sm.laid bf r x)) (Sm.laid bf r x) (N + j)).toArray
          have hg4 : wr.grownBy (w3.setRow g (dcells (Sm.mix (Sm.st L) (Sm.laid bf r x)) (Sm.laid bf r x) (N + j)).toArray) (some g) := grown_trans (grown_trans HW2.out.2 (grown_below HB3.out)) (grown_row _ _ _)
          generalize w3.setRow g (dcells (Sm.mix (Sm.st L) (Sm.laid bf r x)) (Sm.laid bf r x) (N + j)).toArray = w4 at *
          have HW4 := Lib.hid (And.intro hw4 hg4)
          clear hw4 hg4
          go_wp2
          go_roundw
          case rel =>
            refine ⟨k + j, A, c' - j, by have := HM.out; omega, by rw [← hnk.out], Lib.hid ⟨?_, ?_, grown_trans HW.out.2.2.2.2 HW4.out.2⟩⟩
            · rw [← hLx.out]
              exact ⟨_, HBY.out, HIN.out.1, by rw [HIN.out.2, List.length_append, HN.out, hxl]; exact HW4.out.1⟩
            · rw [← hdd.out, ← hnk.out]
              exact htn.out.grown HW4.out.2 (fun b _ hb => fun e => hb (by injection e))
          case measure => simp; omega
        · try simp only [List.getElem_toArray, List.getElem_cons_zero, List.getElem_cons_succ]
          refine if_wanted (by rfl) ?_
          refine wp_load_mid _ _ rfl _ _ rfl _ _ r8 undB64 rfl (by rw [nums_len, hbl2]; exact infoB64) ?_
          refine hK.out _ _ trivial (fun hHeld => ?_)
          clear hK K
          try simp only [Act.put, List.getElem_toArray, List.getElem_cons_zero, List.getElem_cons_succ, List.setIfInBounds_toArray, List.set_cons_zero, List.set_cons_succ]
          refine wpAnyH_ready (rs := [4]) (by kernel_rfl) (by simp) (AllReadyH.cons rfl (fun K hK => ?_) AllReadyH.nil)
          try simp only [List.getElem_toArray, List.getElem_cons_zero, List.getElem_cons_succ]
          refine if_wanted (by rfl) ?_
          refine wp_load_mid _ _ rfl _ _ rfl _ _ r0 undW8 rfl (by rw [wds_len]; exact infoW8) ?_
          refine hK.out _ _ trivial (fun hHeld => ?_)
          clear hK K
          try simp only [Act.put, List.getElem_toArray, List.getElem_cons_zero, List.getElem_cons_succ, List.setIfInBounds_toArray, List.set_cons_zero, List.set_cons_succ]
          refine wpAnyH_ready (rs := [9]) (by kernel_rfl) (by simp) (AllReadyH.cons rfl (fun K hK => ?_) AllReadyH.nil)
          try simp only [List.getElem_toArray, List.getElem_cons_zero, List.getElem_cons_succ]
          go_simp
          go_at_call 46
          refine (mixed_any (Sm.st L) (Sm.laid bf r x) w2.drew HR2.out HBY.out hbl2).mono ?_
          rintro e w3 ⟨rfl, hb3⟩
          have hw3 : Whole w3 g 73 (dcells (Sm.st L) (Sm.laid bf r x) (N + j)).toArray := Whole.below (w := w2.drew) HW2.out.1 hb3 hz2
          have HB3 : Hid (Below w2.heap.size w2 w3) := Lib.hid (below_drew hb3)
          have HW3 := Lib.hid hw3
          clear hb3 hw3 r0 r8
          go_wp2_with fail
          refine hK.out _ _ trivial (fun hHeld => ?_)
          clear hK K
          try simp only [Act.put, List.getElem_toArray, List.getElem_cons_zero, List.getElem_cons_succ, List.setIfInBounds_toArray, List.set_cons_zero, List.set_cons_succ]
          refine wpAnyH_take (i := 10) (v := .pointer (some ⟨g, 0, none⟩)) rfl (by kernel_rfl) (by kernel_rfl) (by kernel_rfl) (fun _ _ _ h => h) (Or.inl ⟨by rfl, (by intro w hSw; (try dsimp only at hSw); go_simp)⟩) (by assumption) ?_
          try simp only [Act.put, List.getElem_toArray, List.getElem_cons_zero, List.getElem_cons_succ, List.setIfInBounds_toArray, List.set_cons_zero, List.set_cons_succ]
          refine wpAnyH_take (i := 11) (v := .pointer (some ⟨g, 0, none⟩)) rfl (by kernel_rfl) (by kernel_rfl) (by kernel_rfl) (fun _ _ _ h => h) (Or.inl ⟨by rfl, (by intro w hSw; (try dsimp only at hSw); go_simp)⟩) (by assumption) ?_
          try simp only [Act.put, List.getElem_toArray, List.getElem_cons_zero, List.getElem_cons_succ, List.setIfInBounds_toArray, List.set_cons_zero, List.set_cons_succ]
          refine wpAnyH_ready (rs := [12]) (by kernel_rfl) (by simp) (AllReadyH.cons rfl (fun K hK => ?_) AllReadyH.nil)
          try simp only [List.getElem_toArray, List.getElem_cons_zero, List.getElem_cons_succ]
          refine if_wanted (by rfl) ?_
          refine wp_store_part (n := 73) _ _ _ rfl g 0 (wds (Sm.mix (Sm.st L) (Sm.laid bf r x)).l) rfl rfl HW3.out (by rw [wds_len]; exact infoW8) (wds_one _) (by rw [wds_len, dcells_size _ _ _ hbl2]; show 8 ≤ 73; omega) ?_
          refine hK.out _ _ trivial (fun hHeld => ?_)
          clear hK K
          try simp only [Act.put, List.getElem_toArray, List.getElem_cons_zero, List.getElem_cons_succ, List.setIfInBounds_toArray, List.set_cons_zero, List.set_cons_succ]
          refine wpAnyH_done (by kernel_rfl) ?_ _
          rw [dcells_state]
          have hw4 := HW3.out.row (dcells (Sm.mix (Sm.st L) (Sm.laid bf r x)) (Sm.laid bf r x) (N + j)).toArray
          have hg4 : wr.grownBy (w3.setRow g (dcells (Sm.mix (Sm.st L) (Sm.laid bf r x)) (Sm.laid bf r x) (N + j)).toArray) (some g) := grown_trans (grown_trans HW2.out.2 (grown_below HB3.out)) (grown_row _ _ _)
          generalize w3.setRow g (dcells (Sm.mix (Sm.st L) (Sm.laid bf r x)) (Sm.laid bf r x) (N + j)).toArray = w4 at *
          have HW4 := Lib.hid (And.intro hw4 hg4)
          clear hw4 hg4
          go_wp2
          go_roundw
          case rel =>
            refine ⟨k + j, A, c' - j, by have := HM.out; omega, by rw [← hnk.out], Lib.hid ⟨?_, ?_, grown_trans HW.out.2.2.2.2 HW4.out.2⟩⟩
            · rw [← hLx.out]
              exact ⟨_, HBY.out, HIN.out.1, by rw [HIN.out.2, List.length_append, HN.out, hxl]; exact HW4.out.1⟩
            · rw [← hdd.out, ← hnk.out]
              exact htn.out.grown HW4.out.2 (fun b _ hb => fun e => hb (by injection e))
          case measure => simp; omega
      · have he : (((N : Int) + (j : Int)) % 64 == 0) = false := by rw [beq_eq_false_iff_ne]; have := HRR.out; omega
        have HIN : Hid (Sm.InBlock (Sm.laid bf r x) (L ++ x) ∧ Sm.st (L ++ x) = Sm.st L) := Lib.hid (by have h1 := Sm.inBlock_same (x := x) HW.out.2.1 (by rw [← hrl.out, hxl]; omega); have h2 := Sm.st_same L x (by rw [← hrl.out, hxl]; omega); rw [← hrl.out] at h1; exact ⟨h1, h2⟩)
        go_wp2
        go_roundw
        case rel =>
          refine ⟨k + j, A, c' - j, by have := HM.out; omega, by rw [← hnk.out], Lib.hid ⟨?_, ?_, grown_trans HW.out.2.2.2.2 HW2.out.2⟩⟩
          · rw [← hLx.out]
            exact ⟨_, HBY.out, HIN.out.1, by rw [HIN.out.2, List.length_append, HN.out, hxl]; exact HW2.out.1⟩
          · rw [← hdd.out, ← hnk.out]
            exact htn.out.grown HW2.out.2 (fun b _ hb => fun e => hb (by injection e))
        case measure => simp; omega
    · have hkn : k = n := by omega
      have hd : decide ((0 : Int) < ((n - k : Nat) : Int)) = false := by simp; omega
      have HKN := Lib.hid hkn
      clear hkn
      go_wp2
      go_end0
      have h1 := HB.out.1
      rw [HKN.out, List.take_of_length_le (by rw [HT.out]; omega)] at h1
      exact ⟨rfl, h1, HB.out.2.2⟩
end Go.Proofs.YtiogfkhmigbgpaaDoor
namespace Go.Proofs.YtiogfkhmigbgpaaDoor
set_option maxRecDepth 20000
open Go.RowKit
theorem noughts_any (n : Nat) (w : World) (hn : n ≤ 1000000) : Calls Tryd.prog 47 #[.int .u64 (n : Int)] w fun e w' => e = .returned (.int .i64 ((Sm.noughts n : Nat) : Int)) ∧ w = w' := by
  go_enter Tryd.func47, Tryd.ntmps47
  go_wp2
  go_ret
  refine ⟨congrArg (fun n => Ending.returned (Value.int .i64 n)) ?_, rfl⟩
  unfold Sm.noughts
  omega
theorem byte0 (x : BitVec 32) : num x / 16777216 % 256 = Sm.byteOf x 0 := by unfold num Sm.byteOf; simp
theorem byte1 (x : BitVec 32) : num x / 65536 % 256 = Sm.byteOf x 1 := by unfold num Sm.byteOf; simp
theorem byte2 (x : BitVec 32) : num x / 256 % 256 = Sm.byteOf x 2 := by unfold num Sm.byteOf; simp
theorem byte3 (x : BitVec 32) : num x % 256 = Sm.byteOf x 3 := by unfold num Sm.byteOf; simp
theorem zero32 : #[Value.int IntKind.u8 0, Value.int IntKind.u8 0, Value.int IntKind.u8 0, Value.int IntKind.u8 0, Value.int IntKind.u8 0, Value.int IntKind.u8 0, Value.int IntKind.u8 0, Value.int IntKind.u8 0, Value.int IntKind.u8 0, Value.int IntKind.u8 0, Value.int IntKind.u8 0, Value.int IntKind.u8 0, Value.int IntKind.u8 0, Value.int IntKind.u8 0, Value.int IntKind.u8 0, Value.int IntKind.u8 0, Value.int IntKind.u8 0, Value.int IntKind.u8 0, Value.int IntKind.u8 0, Value.int IntKind.u8 0, Value.int IntKind.u8 0, Value.int IntKind.u8 0, Value.int IntKind.u8 0, Value.int IntKind.u8 0, Value.int IntKind.u8 0, Value.int IntKind.u8 0, Value.int IntKind.u8 0, Value.int IntKind.u8 0, Value.int IntKind.u8 0, Value.int IntKind.u8 0, Value.int IntKind.u8 0, Value.int IntKind.u8 0] = (nums (List.replicate 32 0)).toArray := rfl
theorem und32 : Tryd.prog.underlying 32 = some (.array 32 5) := by kernel_rfl
theorem info32 : (Tryd.prog.info? 32).map (·.size) = some 32 := by kernel_rfl
def sb (l : List (BitVec 32)) (k : Nat) : List Int := Sm.bytesOf (l.take k) ++ List.replicate (32 - 4 * k) 0
theorem bytesOf_len (l : List (BitVec 32)) : (Sm.bytesOf l).length = 4 * l.length := by
  induction l with
  | nil => rfl
  | cons x l ih =>
    show (([Sm.byteOf x 0, Sm.byteOf x 1, Sm.byteOf x 2, Sm.byteOf x 3] ++ Sm.bytesOf l)).length = _
    rw [List.length_append, ih, List.length_cons]
    simp; omega
theorem bytesOf_append (l m : List (BitVec 32)) : Sm.bytesOf (l ++ m) = Sm.bytesOf l ++ Sm.bytesOf m := by simp [Sm.bytesOf]
theorem byt_bytesOf (l : List (BitVec 32)) : Byt (Sm.bytesOf l) := by
  intro y hy
  obtain ⟨x, _, hx⟩ := List.mem_flatMap.1 hy
  simp only [List.mem_cons, List.not_mem_nil, or_false, Sm.byteOf] at hx
  rcases hx with h | h | h | h <;> subst h <;> omega
theorem set4 (a : List Int) (r : List Int) (k : Nat) (z0 z1 z2 z3 y0 y1 y2 y3 : Int) (ha : a.length = k) :
    ((((nums (a ++ z0 :: z1 :: z2 :: z3 :: r)).toArray.setIfInBounds k (.int .u8 y0)).setIfInBounds (k + 1) (.int .u8 y1)).setIfInBounds (k + 2) (.int .u8 y2)).setIfInBounds (k + 3) (.int .u8 y3) = (nums (a ++ y0 :: y1 :: y2 :: y3 :: r)).toArray := by
  subst ha
  have e : (nums a).length = a.length := nums_len a
  simp only [nums, List.map_append, List.map_cons, List.setIfInBounds_toArray]
  congr 1
  have e2 : (List.map (Value.int IntKind.u8) a).length = a.length := by simp
  rw [List.set_append_right _ _ (by omega), List.set_append_right _ _ (by omega), List.set_append_right _ _ (by omega), List.set_append_right _ _ (by omega), e2]
  simp only [Nat.sub_self, Nat.add_sub_cancel_left, List.set_cons_zero, List.set_cons_succ]
theorem sb_set (l : List (BitVec 32)) (k : Nat) (hl : l.length = 8) (hk : k < 8) (x : BitVec 32) (hx : l.getD k 0 = x) :
    ((((nums (sb l k)).toArray.setIfInBounds (4 * k) (.int .u8 (Sm.byteOf x 0))).setIfInBounds (4 * k + 1) (.int .u8 (Sm.byteOf x 1))).setIfInBounds (4 * k + 2) (.int .u8 (Sm.byteOf x 2))).setIfInBounds (4 * k + 3) (.int .u8 (Sm.byteOf x 3)) = (nums (sb l (k + 1))).toArray := by
  have e : List.replicate (32 - 4 * k) (0 : Int) = 0 :: 0 :: 0 :: 0 :: List.replicate (32 - 4 * (k + 1)) 0 := by
    rw [show 32 - 4 * k = (32 - 4 * (k + 1)) + 1 + 1 + 1 + 1 by omega]
    rfl
  unfold sb
  rw [e, set4 _ _ _ _ _ _ _ _ _ _ _ (by rw [bytesOf_len, List.length_take, hl]; omega)]
  congr 2
  have h2 : l.take (k + 1) = l.take k ++ [x] := by
    rw [List.take_succ_eq_append_getElem (by omega)]
    congr 2
    rw [← hx]; simp [show k < l.length by omega]
  rw [h2, bytesOf_append, List.append_assoc]
  rfl
theorem sb_len (l : List (BitVec 32)) (k : Nat) (hl : l.length = 8) (hk : k ≤ 8) : (sb l k).length = 32 := by
  simp [sb, bytesOf_len, hl]; omega
set_option maxHeartbeats 2000000 in
theorem stateBytes_any (s : Sm.St) (w : World) : Calls Tryd.prog 48 #[.agg (wds s.l).toArray] w fun e w' => e = .returned (.agg (nums (Sm.bytesOf s.l)).toArray) ∧ Below w.heap.size w w' := by
  go_enter Tryd.func48, Tryd.ntmps48
  go_wp2_with ((with_reducible show wpList _ _ _ ((⟨_, Op.load 70 _, _, _, _, _⟩ : Oper) :: _) _ _); refine wpList_load_row rfl _ (.tmp 1) rfl w.heap.size rfl 70 (wds s.l).toArray (0, 0) _ ?k1 undW8 rfl infoW8 ?_)
  case k1 =>
    exact ((Whole.new w 70 (wds s.l).toArray).alloc (.cells #[Value.int IntKind.u8 0, Value.int IntKind.u8 0, Value.int IntKind.u8 0, Value.int IntKind.u8 0, Value.int IntKind.u8 0, Value.int IntKind.u8 0, Value.int IntKind.u8 0, Value.int IntKind.u8 0, Value.int IntKind.u8 0, Value.int IntKind.u8 0, Value.int IntKind.u8 0, Value.int IntKind.u8 0, Value.int IntKind.u8 0, Value.int IntKind.u8 0, Value.int IntKind.u8 0, Value.int IntKind.u8 0, Value.int IntKind.u8 0, Value.int IntKind.u8 0, Value.int IntKind.u8 0, Value.int IntKind.u8 0, Value.int IntKind.u8 0, Value.int IntKind.u8 0, Value.int IntKind.u8 0, Value.int IntKind.u8 0, Value.int IntKind.u8 0, Value.int IntKind.u8 0, Value.int IntKind.u8 0, Value.int IntKind.u8 0, Value.int IntKind.u8 0, Value.int IntKind.u8 0, Value.int IntKind.u8 0, Value.int IntKind.u8 0] 32)).alloc (.cells #[Value.int IntKind.u8 0, Value.int IntKind.u8 0, Value.int IntKind.u8 0, Value.int IntKind.u8 0, Value.int IntKind.u8 0, Value.int IntKind.u8 0, Value.int IntKind.u8 0, Value.int IntKind.u8 0, Value.int IntKind.u8 0, Value.int IntKind.u8 0, Value.int IntKind.u8 0, Value.int IntKind.u8 0, Value.int IntKind.u8 0, Value.int IntKind.u8 0, Value.int IntKind.u8 0, Value.int IntKind.u8 0, Value.int IntKind.u8 0, Value.int IntKind.u8 0, Value.int IntKind.u8 0, Value.int IntKind.u8 0, Value.int IntKind.u8 0, Value.int IntKind.u8 0, Value.int IntKind.u8 0, Value.int IntKind.u8 0, Value.int IntKind.u8 0, Value.int IntKind.u8 0, Value.int IntKind.u8 0, Value.int IntKind.u8 0, Value.int IntKind.u8 0, Value.int IntKind.u8 0, Value.int IntKind.u8 0, Value.int IntKind.u8 0] 32)
  rw [zero32]
  have kr := (Whole.new (w.alloc (.cells (wds s.l).toArray 70)) 32 (nums (List.replicate 32 0)).toArray).alloc (.cells (nums (List.replicate 32 0)).toArray 32)
  have kw := Whole.new ((w.alloc (.cells (wds s.l).toArray 70)).alloc (.cells (nums (List.replicate 32 0)).toArray 32)) 32 (nums (List.replicate 32 0)).toArray
  have hb3 : Below w.heap.size w (((w.alloc (.cells (wds s.l).toArray 70)).alloc (.cells (nums (List.replicate 32 0)).toArray 32)).alloc (.cells (nums (List.replicate 32 0)).toArray 32)) := ((below_alloc w _).alloc (by simp) _).alloc (by simp; omega) _
  simp only [size_alloc] at kr kw
  generalize ((w.alloc (.cells (wds s.l).toArray 70)).alloc (.cells (nums (List.replicate 32 0)).toArray 32)).alloc (.cells (nums (List.replicate 32 0)).toArray 32) = w3 at *
  generalize hBe : w.heap.size = B at *
  have HBE := Lib.hid hBe
  clear hBe
  have H0 := Lib.hid (And.intro kr (And.intro kw hb3))
  clear kr kw hb3
  go_wp2
  go_loopw [7] (fun i wr => ∃ k : Nat, k ≤ 8 ∧ i = .int .i64 k ∧ Hid (Whole wr (B + 1) 32 (nums (List.replicate 32 0)).toArray ∧ Whole wr (B + 1 + 1) 32 (nums (sb s.l k)).toArray ∧ Below B w wr)) (fun i _ => 8 - (intOf i).toNat)
  case atStart => exact ⟨0, Nat.zero_le _, rfl, Lib.hid H0.out⟩
  case round =>
    clear H0
    obtain ⟨k, hk, rfl, HB⟩ := hrel
    by_cases hlt : k < 8
    · have hd : decide ((k : Int) < 8) = true := by simp; omega
      have q0 : (k : Int) < 8 := by omega
      obtain ⟨x, hx⟩ : ∃ x, s.l.getD k 0 = x := ⟨_, rfl⟩
      have hix : (Instr.index 70 (.agg (wds s.l).toArray) (.int .i64 (k : Int))).run Tryd.prog wr = .ok (.int .u32 (num x)) wr := by rw [← hx]; exact index_w8 s.l rfl k hlt wr
      have HX := Lib.hid hx
      clear hx
      have hlen := sb_len s.l k rfl hk
      have c0 : wr.cell? ⟨B + 1 + 1, 4 * k, none⟩ = some (.int .u8 ((sb s.l k).getD (4 * k) 0)) := (HB.out.2.1.cell _).trans (by rw [List.getElem?_toArray, nums_get _ _ (by omega)])
      have c1 : wr.cell? ⟨B + 1 + 1, 4 * k + 1, none⟩ = some (.int .u8 ((sb s.l k).getD (4 * k + 1) 0)) := (HB.out.2.1.cell _).trans (by rw [List.getElem?_toArray, nums_get _ _ (by omega)])
      have c2 : wr.cell? ⟨B + 1 + 1, 4 * k + 2, none⟩ = some (.int .u8 ((sb s.l k).getD (4 * k + 2) 0)) := (HB.out.2.1.cell _).trans (by rw [List.getElem?_toArray, nums_get _ _ (by omega)])
      have c3 : wr.cell? ⟨B + 1 + 1, 4 * k + 3, none⟩ = some (.int .u8 ((sb s.l k).getD (4 * k + 3) 0)) := (HB.out.2.1.cell _).trans (by rw [List.getElem?_toArray, nums_get _ _ (by omega)])
      have f0 : wr.frozen? ⟨B + 1 + 1, 4 * k, none⟩ = false := HB.out.2.1.frozen _
      have f1 : wr.frozen? ⟨B + 1 + 1, 4 * k + 1, none⟩ = false := HB.out.2.1.frozen _
      have f2 : wr.frozen? ⟨B + 1 + 1, 4 * k + 2, none⟩ = false := HB.out.2.1.frozen _
      have f3 : wr.frozen? ⟨B + 1 + 1, 4 * k + 3, none⟩ = false := HB.out.2.1.frozen _
      have v0 := byte0 x
      have v1 := byte1 x
      have v2 := byte2 x
      have v3 := byte3 x
      have HLEN := Lib.hid hlen
      clear hlen
      with_reducible generalize (sb s.l k).getD (4 * k) 0 = z0 at *
      with_reducible generalize (sb s.l k).getD (4 * k + 1) 0 = z1 at *
      with_reducible generalize (sb s.l k).getD (4 * k + 2) 0 = z2 at *
      with_reducible generalize (sb s.l k).getD (4 * k + 3) 0 = z3 at *
      go_wp2
      go_roundw
      case rel =>
        refine ⟨k + 1, by omega, by go_num, Lib.hid ⟨?_, ?_, ?_⟩⟩
        · exact (((HB.out.1.far (by show B + 1 ≠ B + 1 + 1; omega) _).far (by show B + 1 ≠ B + 1 + 1; omega) _).far (by show B + 1 ≠ B + 1 + 1; omega) _).far (by show B + 1 ≠ B + 1 + 1; omega) _
        · rw [← sb_set s.l k rfl hlt x HX.out]
          exact (((HB.out.2.1.set _ _).set _ _).set _ _).set _ _
        · exact (((HB.out.2.2.setCell (by show B ≤ B + 1 + 1; omega) _).setCell (by show B ≤ B + 1 + 1; omega) _).setCell (by show B ≤ B + 1 + 1; omega) _).setCell (by show B ≤ B + 1 + 1; omega) _
      case measure => simp [intOf]; omega
    · have hd : decide ((k : Int) < 8) = false := by simp; omega
      have hk8 : k = 8 := by omega
      have K1 : Hid (Whole wr (B + 1) 32 (nums (List.replicate 32 0)).toArray) := Lib.hid HB.out.1
      have K2 : Hid (Whole wr (B + 1 + 1) 32 (nums (Sm.bytesOf s.l)).toArray) := Lib.hid (by have := HB.out.2.1; rw [hk8] at this; simpa [sb, Sm.St.l] using this)
      have HBL := Lib.hid HB.out.2.2
      clear HB hk8
      have hNa := all_nums (Sm.bytesOf s.l)
      have HNS : Hid ((nums (Sm.bytesOf s.l)).toArray.size = 32) := Lib.hid (by simp [nums_len, bytesOf_len, Sm.St.l])
      have HZ : Hid ((nums (List.replicate 32 0)).toArray.size = 32) := Lib.hid rfl
      with_reducible generalize hN : (nums (Sm.bytesOf s.l)).toArray = N at *
      go_wp2_with (first
        | ((with_reducible show wpList _ _ _ ((⟨_, Op.load 32 _, _, _, _, _⟩ : Oper) :: _) _ _); refine wpList_load_row rfl _ (.tmp 3) rfl (B + 1 + 1) rfl 32 N (0, 0) _ K2.out und32 rfl (by rw [HNS.out]; exact info32) ?_)
        | ((with_reducible show wpList _ _ _ ((⟨_, Op.store 32 _ _, _, _, _, _⟩ : Oper) :: _) _ _); refine wpList_store_row rfl _ (.tmp 2) (.tmp 38) rfl (B + 1) N rfl rfl 32 _ K1.out (by rw [HNS.out]; exact info32) (by rw [HZ.out, HNS.out]) hNa ?_))
      refine bodyPost_ret (results_one_cell rfl _ _ _ _ rfl (run_loadVar_row _ _ _ _ _ (0, 0) _ (K1.out.row N) und32 rfl (by rw [HNS.out]; exact info32))) rfl ?_
      exact ⟨by rw [hN], by rw [HBE.out]; exact below_row HBL.out (by omega) N⟩
end Go.Proofs.YtiogfkhmigbgpaaDoor
namespace Go.Proofs.YtiogfkhmigbgpaaDoor
set_option maxRecDepth 20000
open Go.RowKit
def zs (n : Nat) : List Int := List.replicate n 0
theorem zs_len (n : Nat) : (zs n).length = n := by simp [zs]
theorem zero72 : #[Value.int IntKind.u8 0, Value.int IntKind.u8 0, Value.int IntKind.u8 0, Value.int IntKind.u8 0, Value.int IntKind.u8 0, Value.int IntKind.u8 0, Value.int IntKind.u8 0, Value.int IntKind.u8 0, Value.int IntKind.u8 0, Value.int IntKind.u8 0, Value.int IntKind.u8 0, Value.int IntKind.u8 0, Value.int IntKind.u8 0, Value.int IntKind.u8 0, Value.int IntKind.u8 0, Value.int IntKind.u8 0, Value.int IntKind.u8 0, Value.int IntKind.u8 0, Value.int IntKind.u8 0, Value.int IntKind.u8 0, Value.int IntKind.u8 0, Value.int IntKind.u8 0, Value.int IntKind.u8 0, Value.int IntKind.u8 0, Value.int IntKind.u8 0, Value.int IntKind.u8 0, Value.int IntKind.u8 0, Value.int IntKind.u8 0, Value.int IntKind.u8 0, Value.int IntKind.u8 0, Value.int IntKind.u8 0, Value.int IntKind.u8 0, Value.int IntKind.u8 0, Value.int IntKind.u8 0, Value.int IntKind.u8 0, Value.int IntKind.u8 0, Value.int IntKind.u8 0, Value.int IntKind.u8 0, Value.int IntKind.u8 0, Value.int IntKind.u8 0, Value.int IntKind.u8 0, Value.int IntKind.u8 0, Value.int IntKind.u8 0, Value.int IntKind.u8 0, Value.int IntKind.u8 0, Value.int IntKind.u8 0, Value.int IntKind.u8 0, Value.int IntKind.u8 0, Value.int IntKind.u8 0, Value.int IntKind.u8 0, Value.int IntKind.u8 0, Value.int IntKind.u8 0, Value.int IntKind.u8 0, Value.int IntKind.u8 0, Value.int IntKind.u8 0, Value.int IntKind.u8 0, Value.int IntKind.u8 0, Value.int IntKind.u8 0, Value.int IntKind.u8 0, Value.int IntKind.u8 0, Value.int IntKind.u8 0, Value.int IntKind.u8 0, Value.int IntKind.u8 0, Value.int IntKind.u8 0, Value.int IntKind.u8 0, Value.int IntKind.u8 0, Value.int IntKind.u8 0, Value.int IntKind.u8 0, Value.int IntKind.u8 0, Value.int IntKind.u8 0, Value.int IntKind.u8 0, Value.int IntKind.u8 0] = (nums (zs 72)).toArray := rfl
theorem zero32z : #[Value.int IntKind.u8 0, Value.int IntKind.u8 0, Value.int IntKind.u8 0, Value.int IntKind.u8 0, Value.int IntKind.u8 0, Value.int IntKind.u8 0, Value.int IntKind.u8 0, Value.int IntKind.u8 0, Value.int IntKind.u8 0, Value.int IntKind.u8 0, Value.int IntKind.u8 0, Value.int IntKind.u8 0, Value.int IntKind.u8 0, Value.int IntKind.u8 0, Value.int IntKind.u8 0, Value.int IntKind.u8 0, Value.int IntKind.u8 0, Value.int IntKind.u8 0, Value.int IntKind.u8 0, Value.int IntKind.u8 0, Value.int IntKind.u8 0, Value.int IntKind.u8 0, Value.int IntKind.u8 0, Value.int IntKind.u8 0, Value.int IntKind.u8 0, Value.int IntKind.u8 0, Value.int IntKind.u8 0, Value.int IntKind.u8 0, Value.int IntKind.u8 0, Value.int IntKind.u8 0, Value.int IntKind.u8 0, Value.int IntKind.u8 0] = (nums (zs 32)).toArray := rfl
/-- The bytes behind a text of n bytes, its number of bits written as far as k bytes. -/
def tailTo (n k : Nat) : List Int := 128 :: (zs (Sm.noughts n) ++ ((Sm.bits8 n).take k ++ zs (71 - Sm.noughts n - k)))
theorem noughts_lt (n : Nat) : Sm.noughts n < 64 := by unfold Sm.noughts; omega
theorem bits8_len (n : Nat) : (Sm.bits8 n).length = 8 := by simp [Sm.bits8]
theorem tailTo_len (n k : Nat) (hk : k ≤ 8) : (tailTo n k).length = 72 := by
  have := noughts_lt n
  simp [tailTo, bits8_len, zs_len]; omega
theorem zero_72 (w : World) : (zeroValue 79).run Tryd.prog w = .ok (.agg (nums (zs 72)).toArray) w := by
  have h : (Tryd.prog.info? 79).map (·.zero) = some (some (.agg #[Value.int IntKind.u8 0, Value.int IntKind.u8 0, Value.int IntKind.u8 0, Value.int IntKind.u8 0, Value.int IntKind.u8 0, Value.int IntKind.u8 0, Value.int IntKind.u8 0, Value.int IntKind.u8 0, Value.int IntKind.u8 0, Value.int IntKind.u8 0, Value.int IntKind.u8 0, Value.int IntKind.u8 0, Value.int IntKind.u8 0, Value.int IntKind.u8 0, Value.int IntKind.u8 0, Value.int IntKind.u8 0, Value.int IntKind.u8 0, Value.int IntKind.u8 0, Value.int IntKind.u8 0, Value.int IntKind.u8 0, Value.int IntKind.u8 0, Value.int IntKind.u8 0, Value.int IntKind.u8 0, Value.int IntKind.u8 0, Value.int IntKind.u8 0, Value.int IntKind.u8 0, Value.int IntKind.u8 0, Value.int IntKind.u8 0, Value.int IntKind.u8 0, Value.int IntKind.u8 0, Value.int IntKind.u8 0, Value.int IntKind.u8 0, Value.int IntKind.u8 0, Value.int IntKind.u8 0, Value.int IntKind.u8 0, Value.int IntKind.u8 0, Value.int IntKind.u8 0, Value.int IntKind.u8 0, Value.int IntKind.u8 0, Value.int IntKind.u8 0, Value.int IntKind.u8 0, Value.int IntKind.u8 0, Value.int IntKind.u8 0, Value.int IntKind.u8 0, Value.int IntKind.u8 0, Value.int IntKind.u8 0, Value.int IntKind.u8 0, Value.int IntKind.u8 0, Value.int IntKind.u8 0, Value.int IntKind.u8 0, Value.int IntKind.u8 0, Value.int IntKind.u8 0, Value.int IntKind.u8 0, Value.int IntKind.u8 0, Value.int IntKind.u8 0, Value.int IntKind.u8 0, Value.int IntKind.u8 0, Value.int IntKind.u8 0, Value.int IntKind.u8 0, Value.int IntKind.u8 0, Value.int IntKind.u8 0, Value.int IntKind.u8 0, Value.int IntKind.u8 0, Value.int IntKind.u8 0, Value.int IntKind.u8 0, Value.int IntKind.u8 0, Value.int IntKind.u8 0, Value.int IntKind.u8 0, Value.int IntKind.u8 0, Value.int IntKind.u8 0, Value.int IntKind.u8 0, Value.int IntKind.u8 0])) := by kernel_rfl
  cases hq : Tryd.prog.info? 79 with
  | none => rw [hq] at h; cases h
  | some i =>
    rw [hq] at h
    simp only [Option.map_some, Option.some.injEq] at h
    rw [zero72] at h
    simp [zeroValue, typeInfo, hq, h]
theorem tail_start (n : Nat) : (nums (zs 72)).toArray.setIfInBounds 0 (.int .u8 128) = (nums (tailTo n 0)).toArray := by
  have h := noughts_lt n
  have e : zs (Sm.noughts n) ++ zs (71 - Sm.noughts n) = zs 71 := by
    unfold zs
    rw [List.replicate_append_replicate]
    congr 1
    omega
  unfold tailTo
  rw [List.take_zero, List.nil_append, Nat.sub_zero, e]
  rfl
theorem bits8_get (n k : Nat) (hk : k < 8) : (Sm.bits8 n).getD k 0 = ((8 * n / 2 ^ (56 - 8 * k) % 256 : Nat) : Int) := by
  simp [Sm.bits8, hk]
theorem byt_bits8 (n : Nat) : Byt (Sm.bits8 n) := by
  intro y hy
  simp only [Sm.bits8, List.mem_map] at hy
  obtain ⟨i, _, rfl⟩ := hy
  omega
theorem byt_tailTo (n k : Nat) : Byt (tailTo n k) := byt_cons (by omega) (by omega) (byt_append (byt_zeros _) (byt_append (byt_take (byt_bits8 n) k) (byt_zeros _)))
theorem nums_set (a r : List Int) (x y : Int) (k : Nat) (hk : a.length = k) : (nums (a ++ y :: r)).toArray.setIfInBounds k (.int .u8 x) = (nums (a ++ x :: r)).toArray := by
  subst hk
  simp [nums]
theorem tail_set (n k z : Nat) (hz : Sm.noughts n = z) (hk : k < 8) : (nums (tailTo n k)).toArray.setIfInBounds (1 + z + k) (.int .u8 (8 * (n : Int) / 2 ^ (8 * (7 - k)) % 256)) = (nums (tailTo n (k + 1))).toArray := by
  have h := noughts_lt n
  have e : zs (71 - z - k) = 0 :: zs (71 - z - (k + 1)) := by
    unfold zs
    rw [show 71 - z - k = (71 - z - (k + 1)) + 1 by omega, List.replicate_succ]
  have e2 : tailTo n k = (128 :: (zs z ++ (Sm.bits8 n).take k)) ++ 0 :: zs (71 - z - (k + 1)) := by
    unfold tailTo
    rw [hz, e]
    simp
  have e3 : tailTo n (k + 1) = (128 :: (zs z ++ (Sm.bits8 n).take k)) ++ (Sm.bits8 n).getD k 0 :: zs (71 - z - (k + 1)) := by
    unfold tailTo
    have : k < (Sm.bits8 n).length := by rw [bits8_len]; omega
    have hk1 : (Sm.bits8 n).take (k + 1) = (Sm.bits8 n).take k ++ [(Sm.bits8 n).getD k 0] := by
      rw [List.take_succ_eq_append_getElem this]
      simp [this]
    rw [hz, hk1]
    simp
  rw [e2, e3, bits8_get n k hk]
  have e4 : 8 * (n : Int) / 2 ^ (8 * (7 - k)) % 256 = ((8 * n / 2 ^ (56 - 8 * k) % 256 : Nat) : Int) := by
    rw [show 8 * (7 - k) = 56 - 8 * k by omega]
    simp
  rw [e4]
  refine nums_set _ _ _ _ _ ?_
  simp [zs_len, bits8_len]
  omega
theorem tail_end (n z : Nat) (hz : Sm.noughts n = z) : (tailTo n 8).take (1 + z + 8) = Sm.tail n := by
  have e : tailTo n 8 = Sm.tail n ++ zs (71 - z - 8) := by
    unfold tailTo Sm.tail
    rw [hz, List.take_of_length_le (by rw [bits8_len]; omega)]
    simp [zs]
  have e2 : (Sm.tail n).length = 1 + z + 8 := by
    simp [Sm.tail, hz, bits8_len]; omega
  rw [e, ← e2, List.take_left]
theorem und72 : Tryd.prog.underlying 79 = some (.array 72 5) := by kernel_rfl
theorem sz_u8 (w : World) : (sizeOf 5).run Tryd.prog w = .ok 1 w := by
  cases hq : Tryd.prog.info? 5 with
  | none => have := infou8; rw [hq] at this; cases this
  | some i =>
    have := infou8
    rw [hq] at this
    simp only [Option.map_some, Option.some.injEq] at this
    simp [sizeOf, typeInfo, hq, this]
theorem sliceAt_72 {B h : Nat} (hh : h ≤ 72) (w : World) : (Instr.sliceAt 79 (.pointer (some ⟨B, 0, none⟩)) none (some (.int .i64 (h : Int))) none).run Tryd.prog w = .ok (.slice (some ⟨B, 0, none⟩) h 72) w := by
  have hb : (0 : Int) ≤ (h : Int) ∧ (h : Int) ≤ ((72 : Nat) : Int) := by omega
  simp only [Instr.sliceAt, Instr.sureAddr, Instr.sliceBounds, Instr.sliceBound, Sem.run_bind, Sem.run_pure, Result.andThen_ok, run_underlying und72, asIntOf, if_pos hb, sz_u8, Int.toNat_natCast, Nat.zero_mul, Nat.sub_zero]
  rw [if_neg (by omega)]
  rfl
theorem grown_rowNew {a b : World} {row : Option Nat} {g : Nat} (h : a.grownBy b row) (hg : a.heap.size ≤ g) (cs : Array Value) : a.grownBy (b.setRow g cs) row :=
  ⟨h.os, h.tape, h.output, by simpa [World.setRow] using h.size, fun k hk hne => (setRow_other b g k cs (by omega)).trans (h.block k hk hne)⟩
set_option maxHeartbeats 2000000 in
theorem end_any {g : Nat} {l : List Int} {w : World} (h : Dg w g l) (hR : Roots w) (hg : 2 ≤ g) (hsz : l.length ≤ 900000) :
    Calls Tryd.prog 43 #[.pointer (some ⟨g, 0, none⟩)] w fun e w' => e = .returned (.agg (nums (Sm.dig l)).toArray) ∧ w.grownBy w' (some g) := by
  obtain ⟨n, hn⟩ : ∃ n, l.length = n := ⟨_, rfl⟩
  have c72 : w.cell? ⟨g, 72, none⟩ = some (.int .u64 (n : Int)) := by
    obtain ⟨bf, _, hin, hw⟩ := h
    rw [hn] at hw
    exact (hw.cell 72).trans (by rw [List.getElem?_toArray]; exact dcells_72 _ _ _ hin.1)
  have hgl : g < w.heap.size := by obtain ⟨bf, _, hin, hw⟩ := h; exact hw.lt
  rw [hn] at hsz
  have HN := Lib.hid hn
  have H := Lib.hid h
  have HR := Lib.hid hR
  clear hn h hR
  have hz72 := zero_72
  go_enter Tryd.func43, Tryd.ntmps43
  go_upto_region 2 with (fail)
  rw [zero32z]
  have kr := (Whole.new w 32 (nums (zs 32)).toArray).alloc (.cells (nums (zs 72)).toArray 79)
  have kt := Whole.new (w.alloc (.cells (nums (zs 32)).toArray 32)) 79 (nums (zs 72)).toArray
  have hb2 : Below w.heap.size w ((w.alloc (.cells (nums (zs 32)).toArray 32)).alloc (.cells (nums (zs 72)).toArray 79)) := (below_alloc w _).alloc (by simp) _
  rw [size_alloc] at kt
  generalize (w.alloc (.cells (nums (zs 32)).toArray 32)).alloc (.cells (nums (zs 72)).toArray 79) = w2 at *
  have d72 : w2.cell? ⟨g, 72, none⟩ = some (.int .u64 (n : Int)) := (hb2.cell (p := ⟨g, 72, none⟩) hgl).trans c72
  generalize hBe : w.heap.size = B at *
  have HBE := Lib.hid hBe
  clear hBe hz72 c72
  have t0 : w2.cell? ⟨B + 1, 0, none⟩ = some (.int .u8 0) := kt.cell 0
  have g0 : w2.frozen? ⟨B + 1, 0, none⟩ = false := kt.frozen 0
  have H2 := Lib.hid (And.intro kr (And.intro kt hb2))
  clear kr kt hb2
  have e72 : (w2.setCell ⟨B + 1, 0, none⟩ (.int .u8 128)).cell? ⟨g, 72, none⟩ = some (.int .u64 (n : Int)) := (World.cell?_setCell_far _ _ _ _ (by show B + 1 ≠ g; omega)).trans d72
  obtain ⟨z, hz⟩ : ∃ z, Sm.noughts n = z := ⟨_, rfl⟩
  have hz64 : z < 64 := by rw [← hz]; exact noughts_lt n
  have HZ := Lib.hid hz
  go_wp2_with (go_at_call 47; refine (noughts_any n _ (by omega)).mono ?_; rintro e w' ⟨rfl, rfl⟩; rw [hz])
  have hw3 : Whole (w2.setCell ⟨B + 1, 0, none⟩ (.int .u8 128)) (B + 1) 79 (nums (tailTo n 0)).toArray := by
    have := H2.out.2.1.set 0 (.int .u8 128)
    rw [tail_start n] at this
    exact this
  have H3 := Lib.hid (And.intro (H2.out.1.far (p := ⟨B + 1, 0, none⟩) (by show B ≠ B + 1; omega) (.int .u8 128)) (And.intro hw3 (H2.out.2.2.setCell (p := ⟨B + 1, 0, none⟩) (by show B ≤ B + 1; omega) (.int .u8 128))))
  clear hw3 H2 t0 g0 d72 e72 hz
  generalize w2.setCell ⟨B + 1, 0, none⟩ (.int .u8 128) = w3 at *
  go_loopw [19] (fun i wr => ∃ k : Nat, k ≤ 8 ∧ i = .int .i64 k ∧ Hid (Whole wr B 32 (nums (zs 32)).toArray ∧ Whole wr (B + 1) 79 (nums (tailTo n k)).toArray ∧ Below B w wr)) (fun i _ => 8 - (intOf i).toNat)
  case atStart => exact ⟨0, Nat.zero_le _, rfl, H3⟩
  case round =>
    clear H3
    obtain ⟨k, hk, rfl, HB⟩ := hrel
    by_cases hlt : k < 8
    · have hd : decide ((k : Int) < 8) = true := by simp; omega
      have q0 : (k : Int) < 8 := by omega
      have hlen := tailTo_len n k hk
      have c0 : wr.cell? ⟨B + 1, 1 + z + k, none⟩ = some (.int .u8 ((tailTo n k).getD (1 + z + k) 0)) := (HB.out.2.1.cell _).trans (by rw [List.getElem?_toArray, nums_get _ _ (by omega)])
      have f0 : wr.frozen? ⟨B + 1, 1 + z + k, none⟩ = false := HB.out.2.1.frozen _
      with_reducible generalize (tailTo n k).getD (1 + z + k) 0 = z0 at *
      clear hlen
      go_wp2
      go_roundw
      case rel =>
        refine ⟨k + 1, by omega, by go_num, Lib.hid ⟨HB.out.1.far (by show B ≠ B + 1; omega) _, ?_, HB.out.2.2.setCell (by show B ≤ B + 1; omega) _⟩⟩
        rw [← tail_set n k z HZ.out hlt]
        exact HB.out.2.1.set _ _
      case measure => simp [intOf]; omega
    · have hd : decide ((k : Int) < 8) = false := by simp; omega
      have hk8 : k = 8 := by omega
      have htx : Txt wr (· ≠ g) (some ⟨B + 1, 0, none⟩) (1 + z + 8) 72 (Sm.tail n) := by
        have h1 := HB.out.2.1
        rw [hk8] at h1
        have h2 := txt_of_whole (· ≠ g) (show B + 1 ≠ g by omega) h1 (byt_tailTo n 8) (1 + z + 8) 72 (by rw [tailTo_len n 8 (by omega)]; omega) (by omega)
        rwa [tail_end n z HZ.out] at h2
      have hdg : Dg wr g l := by
        obtain ⟨bf, h1, h2, h3⟩ := H.out
        exact ⟨bf, h1, h2, h3.below HB.out.2.2 hgl⟩
      have hrt : Roots wr := HR.out.below HB.out.2.2 (by omega)
      have K0 := Lib.hid HB.out.1
      have HBL := Lib.hid HB.out.2.2
      have HT := Lib.hid (And.intro htx (And.intro hdg hrt))
      have HK := Lib.hid hk8
      have hBw : B < wr.heap.size := HB.out.1.lt
      clear htx hdg hrt HB hk8
      have q1 : 1 + (z : Int) + 8 ≤ 72 := by omega
      have hsl := sliceAt_72 (B := B + 1) (h := 1 + z + 8) (by omega) wr
      rw [show ((1 + z + 8 : Nat) : Int) = 1 + (z : Int) + 8 by omega] at hsl
      go_wp2_with fail
      refine (add_any HT.out.2.1 HT.out.2.2 hg HT.out.1 (by rw [HN.out]; omega)).mono ?_
      rintro e w4 ⟨rfl, hdg, hgr⟩
      rw [← HN.out] at hdg
      obtain ⟨bf, h1, h2, h3⟩ := hdg
      have hr0 := range_st h3
      have K04 := Lib.hid (K0.out.grown hgr (by intro e; injection e; omega))
      have HG := Lib.hid hgr
      clear h1 h2 h3 hgr hsl q1
      go_wp2_with (first
        | ((with_reducible show wpList _ _ _ ((⟨_, Op.load 70 _, _, _, _, _⟩ : Oper) :: _) _ _); refine wpList_load_mid rfl _ (.tmp 40) rfl g 0 rfl _ _ hr0 undW8 rfl infoW8 ?_)
        | fail)
      refine (stateBytes_any (Sm.st (l ++ Sm.tail l.length)) w4).mono ?_
      rintro e w5 ⟨rfl, hb5⟩
      have hNa := all_nums (Sm.dig l)
      have HNS : Hid ((nums (Sm.dig l)).toArray.size = 32) := Lib.hid (by simp [nums_len, bytesOf_len, Sm.dig, Sm.St.l])
      have HZ32 : Hid ((nums (zs 32)).toArray.size = 32) := Lib.hid rfl
      have K05 := Lib.hid (K04.out.below hb5 K04.out.lt)
      have HG5 : Hid (w.grownBy w5 (some g)) := Lib.hid (grown_trans (grown_trans (by rw [← HBE.out] at HBL; exact grown_below HBL.out) HG.out) (grown_below hb5))
      rw [show Sm.bytesOf (Sm.st (l ++ Sm.tail l.length)).l = Sm.dig l from rfl]
      with_reducible generalize hN : (nums (Sm.dig l)).toArray = N at *
      clear hb5 hr0 HG K04
      go_wp2_with ((with_reducible show wpList _ _ _ ((⟨_, Op.store 32 _ _, _, _, _, _⟩ : Oper) :: _) _ _); refine wpList_store_row rfl _ (.tmp 2) (.tmp 42) rfl B N rfl rfl 32 _ K05.out (by rw [HNS.out]; exact info32) (by rw [HZ32.out, HNS.out]) hNa ?_)
      refine bodyPost_ret (results_one_cell rfl _ _ _ _ rfl (run_loadVar_row _ _ _ _ _ (0, 0) _ (K05.out.row N) und32 rfl (by rw [HNS.out]; exact info32))) rfl ?_
      exact ⟨by rw [hN], grown_rowNew HG5.out (by rw [HBE.out]; exact Nat.le_refl _) N⟩
end Go.Proofs.YtiogfkhmigbgpaaDoor
namespace Go.Proofs.YtiogfkhmigbgpaaDoor
set_option maxRecDepth 20000
open Go.RowKit
/-- The slice a, n of texts holds ps; all of it in blocks of S. -/
def Parts (w : World) (S : Nat → Prop) (a : Option Addr) (n : Nat) (ps : List (List Int)) : Prop :=
  ps.length = n ∧ (ps = [] ∨ ∃ b off, a = some ⟨b, off, none⟩ ∧ S b ∧ b < w.heap.size ∧ ∀ k, k < n → ∃ a' n' c', w.cell? ⟨b, off + k, none⟩ = some (.slice a' n' c') ∧ Txt w S a' n' c' (ps.getD k []))
section
variable {w w' : World} {S S' : Nat → Prop} {a : Option Addr} {n : Nat} {ps : List (List Int)}
theorem Parts.keep (h : Parts w S a n ps) (hz : w.heap.size ≤ w'.heap.size) (hk : ∀ b, b < w.heap.size → S b → w'.heap[b]? = w.heap[b]?) : Parts w' S a n ps := by
  obtain ⟨h1, h4⟩ := h
  refine ⟨h1, ?_⟩
  rcases h4 with h | ⟨b, off, rfl, hs, hb, hc⟩
  · exact Or.inl h
  · refine Or.inr ⟨b, off, rfl, hs, by omega, fun k hk' => ?_⟩
    obtain ⟨a', n', c', h1, h2⟩ := hc k hk'
    exact ⟨a', n', c', (World.cell?_of_block (w := w) (hk b hb hs)).trans h1, h2.keep hz hk⟩
theorem Parts.weak (h : Parts w S a n ps) (hs : ∀ b, b < w.heap.size → S b → S' b) : Parts w S' a n ps := by
  obtain ⟨h1, h4⟩ := h
  refine ⟨h1, ?_⟩
  rcases h4 with h | ⟨b, off, rfl, hs', hb, hc⟩
  · exact Or.inl h
  · refine Or.inr ⟨b, off, rfl, hs b hb hs', hb, fun k hk' => ?_⟩
    obtain ⟨a', n', c', h1, h2⟩ := hc k hk'
    exact ⟨a', n', c', h1, h2.weak hs⟩
theorem Parts.old (h : Parts w S a n ps) : Parts w (fun b => b < w.heap.size) a n ps := h.weak fun _ hb _ => hb
theorem Parts.below {B : Nat} (h : Parts w S a n ps) (hb : Below B w w') (hs : ∀ b, b < w.heap.size → S b → b < B) : Parts w' S a n ps :=
  h.keep hb.size fun b hlt hS => hb.block b (hs b hlt hS)
theorem Parts.at_ (h : Parts w S a n ps) {k : Nat} (hk : k < n) : ∃ b off a' n' c', a = some ⟨b, off, none⟩ ∧ w.cell? ⟨b, off + k, none⟩ = some (.slice a' n' c') ∧ Txt w S a' n' c' (ps.getD k []) := by
  obtain ⟨h1, h4⟩ := h
  rcases h4 with h | ⟨b, off, rfl, hs, hb, hc⟩
  · subst h; simp at h1; omega
  · obtain ⟨a', n', c', h1, h2⟩ := hc k hk
    exact ⟨b, off, a', n', c', rfl, h1, h2⟩
end
def zcells : List Value := dcells ⟨0, 0, 0, 0, 0, 0, 0, 0⟩ (zs 64) 0
theorem zero73 (w : World) : (zeroValue 73).run Tryd.prog w = .ok (.agg zcells.toArray) w := by
  have h : (Tryd.prog.info? 73).map (·.zero) = some (some (.agg zcells.toArray)) := by kernel_rfl
  cases hq : Tryd.prog.info? 73 with
  | none => rw [hq] at h; cases h
  | some i =>
    rw [hq] at h
    simp only [Option.map_some, Option.some.injEq] at h
    simp [zeroValue, typeInfo, hq, h]
theorem info73 : (Tryd.prog.info? 73).map (·.size) = some 73 := by kernel_rfl
theorem built73 : Tryd.prog.built 73 [(0, .agg (wds Sm.rH).toArray)] = some (dcells Sm.h0 (zs 64) 0).toArray := by kernel_rfl
theorem dg_zero {w : World} {g : Nat} (h : Whole w g 73 (dcells Sm.h0 (zs 64) 0).toArray) : Dg w g [] := ⟨zs 64, byt_zeros 64, Sm.inBlock_nil (zs_len 64), h⟩
theorem dcells_one (s : Sm.St) (bf : List Int) (n : Nat) : (dcells s bf n).toArray.all (·.oneCell') = true := by
  refine Array.all_eq_true_iff_forall_mem.2 (fun v hv => ?_)
  have hv : v ∈ dcells s bf n := by simpa using hv
  unfold dcells at hv
  rcases List.mem_append.1 hv with h | h
  · exact wds_one _ v h
  · rcases List.mem_append.1 h with h | h
    · exact nums_one _ v h
    · simp at h; subst h; rfl
theorem flat_snoc (ps : List (List Int)) (k : Nat) (hk : k < ps.length) : (ps.take (k + 1)).flatten = (ps.take k).flatten ++ ps.getD k [] := by
  rw [List.take_succ_eq_append_getElem hk, List.flatten_append]
  simp [hk]
theorem flat_le (ps : List (List Int)) (k : Nat) : (ps.take k).flatten.length ≤ ps.flatten.length := by
  conv => rhs; rw [← List.take_append_drop k ps]
  rw [List.flatten_append, List.length_append]; omega
theorem wpList_built {ops : Array Oper} {rest : List Oper} {o : Oper} {a : Act} {w : World} {Q : Exit → Act → World → Prop} {ty : TypeId} (hg : o.guard = none) (parts : Array (Nat × Operand)) (ho : o.op = .build ty parts)
    (vs : List (Nat × Value)) (hv : parts.toList.map (fun q => (q.1, a.eval q.2)) = vs) (cells : List Value) (hc : Tryd.prog.built ty vs = some cells.toArray)
    (h : wpList Tryd.prog ops Q rest (a.put o.dst (.agg cells.toArray)) w) : wpList Tryd.prog ops Q (o :: rest) a w := by
  have e : (parts.map fun (i, x) => (i, a.eval x)).toList = vs := by rw [← hv]; simp
  refine wpList_build hg _ parts ho ?_ ?_
  · rw [e, hc]; rfl
  · rw [e, hc]; exact h
theorem below_of_grown {B g : Nat} {a b c : World} (h : Below B a b) (hg : b.grownBy c (some g)) (hB : B ≤ b.heap.size) (hBg : B ≤ g) : Below B a c :=
  h.trans ⟨hg.os, hg.tape, hg.output, hg.size, fun k hk => hg.block k (by omega) (by intro e; injection e; omega)⟩
set_option maxHeartbeats 2000000 in
theorem sum_any {S : Nat → Prop} {a : Option Addr} {n c : Nat} {ps : List (List Int)} {w : World} (h : Parts w S a n ps) (hR : Roots w) (hsz : ps.flatten.length ≤ 900000) (hn : n ≤ 1000000) :
    Calls Tryd.prog 36 #[.slice a n c] w fun e w' => e = .returned (.agg (nums (Sm.dig ps.flatten)).toArray) ∧ Below w.heap.size w w' := by
  have H := Lib.hid h.old
  have HP : Hid (ps.length = n) := Lib.hid h.1
  have HR := Lib.hid hR
  have hB2 := hR.two
  have hz73 := zero73
  obtain ⟨⟨t0, fr0, hg0⟩, _⟩ := hR
  clear h
  go_enter Tryd.func36, Tryd.ntmps36
  go_wp2_with (first
    | ((with_reducible show wpList _ _ _ ((⟨_, Op.load 70 _, _, _, _, _⟩ : Oper) :: _) _ _); refine wpList_load_row rfl _ (.global 0) rfl 0 rfl t0 (wds Sm.rH).toArray fr0 _ ?k1 undW8 rfl infoW8 ?_)
    | ((with_reducible show wpList _ _ _ ((⟨_, Op.build 73 _, _, _, _, _⟩ : Oper) :: _) _ _); refine wpList_built rfl #[(0, .tmp 6)] rfl [(0, .agg (wds Sm.rH).toArray)] rfl _ built73 ?_)
    | ((with_reducible show wpList _ _ _ ((⟨_, Op.store 73 _ _, _, _, _, _⟩ : Oper) :: _) _ _); refine wpList_store_row rfl _ (.tmp 3) (.tmp 7) rfl (w.heap.size + 1) (dcells Sm.h0 (zs 64) 0).toArray rfl rfl 73 zcells.toArray ?k2 (by rw [List.size_toArray, dcells_size _ _ _ (zs_len 64)]; exact info73) rfl (dcells_one _ _ _) ?_)
    | fail)
  case k1 => exact (Below.heap_alloc w _ 0 (by omega)).trans hg0
  case k2 =>
    have k2 := Whole.new (w.alloc (.cells #[Value.int IntKind.u8 0, Value.int IntKind.u8 0, Value.int IntKind.u8 0, Value.int IntKind.u8 0, Value.int IntKind.u8 0, Value.int IntKind.u8 0, Value.int IntKind.u8 0, Value.int IntKind.u8 0, Value.int IntKind.u8 0, Value.int IntKind.u8 0, Value.int IntKind.u8 0, Value.int IntKind.u8 0, Value.int IntKind.u8 0, Value.int IntKind.u8 0, Value.int IntKind.u8 0, Value.int IntKind.u8 0, Value.int IntKind.u8 0, Value.int IntKind.u8 0, Value.int IntKind.u8 0, Value.int IntKind.u8 0, Value.int IntKind.u8 0, Value.int IntKind.u8 0, Value.int IntKind.u8 0, Value.int IntKind.u8 0, Value.int IntKind.u8 0, Value.int IntKind.u8 0, Value.int IntKind.u8 0, Value.int IntKind.u8 0, Value.int IntKind.u8 0, Value.int IntKind.u8 0, Value.int IntKind.u8 0, Value.int IntKind.u8 0] 32)) 73 zcells.toArray
    rw [size_alloc] at k2
    exact k2
  rw [zero32z]
  have kr := ((Whole.new w 32 (nums (zs 32)).toArray).alloc (.cells zcells.toArray 73)).rowFar (b := w.heap.size + 1) (by omega) (dcells Sm.h0 (zs 64) 0).toArray
  have kd : Whole (((w.alloc (.cells (nums (zs 32)).toArray 32)).alloc (.cells zcells.toArray 73)).setRow (w.heap.size + 1) (dcells Sm.h0 (zs 64) 0).toArray) (w.heap.size + 1) 73 (dcells Sm.h0 (zs 64) 0).toArray := by
    have k2 := Whole.new (w.alloc (.cells (nums (zs 32)).toArray 32)) 73 zcells.toArray
    rw [size_alloc] at k2
    exact k2.row _
  have hb2 : Below w.heap.size w (((w.alloc (.cells (nums (zs 32)).toArray 32)).alloc (.cells zcells.toArray 73)).setRow (w.heap.size + 1) (dcells Sm.h0 (zs 64) 0).toArray) := below_row ((below_alloc w _).alloc (by simp) _) (by omega) _
  generalize ((w.alloc (.cells (nums (zs 32)).toArray 32)).alloc (.cells zcells.toArray 73)).setRow (w.heap.size + 1) (dcells Sm.h0 (zs 64) 0).toArray = w2 at *
  generalize hBe : w.heap.size = B at *
  have HBE := Lib.hid hBe
  have H2 := Lib.hid (And.intro kr (And.intro (dg_zero kd) hb2))
  clear kr kd hb2 hBe hz73 hg0
  go_wp2
  go_loopw [10] (fun i wr => ∃ k : Nat, k ≤ n ∧ i = .int .i64 k ∧ Hid (Whole wr B 32 (nums (zs 32)).toArray ∧ Dg wr (B + 1) (ps.take k).flatten ∧ Below B w wr)) (fun i _ => n - (intOf i).toNat)
  case atStart => exact ⟨0, Nat.zero_le _, rfl, H2⟩
  case round =>
    clear H2
    obtain ⟨k, hk, rfl, HB⟩ := hrel
    by_cases hlt : k < n
    · have hd : decide ((k : Int) < (n : Int)) = true := by simp; omega
      obtain ⟨b, off, a', n', c', rfl, hc, htx⟩ := (H.out.below HB.out.2.2 (fun b _ h => h)).at_ hlt
      have HT := Lib.hid htx
      have hfl := flat_snoc ps k (by rw [HP.out]; exact hlt)
      have hn' : (ps.take k).flatten.length + n' ≤ 900000 := by
        have h1 := flat_le ps (k + 1)
        rw [hfl, List.length_append, htx.1] at h1
        omega
      have HF := Lib.hid hfl
      have HR2 : Hid (Roots wr) := Lib.hid (HR.out.below HB.out.2.2 (by omega))
      clear htx hfl
      go_wp2_with (go_at_call 42; refine (add_any HB.out.2.1 HR2.out (by omega) (HT.out.weak (fun b _ h => by show b ≠ B + 1; have := h; omega)) (by omega)).mono ?_; rintro e w' ⟨rfl, hdg, hgr⟩)
      go_roundw
      case rel =>
        refine ⟨k + 1, by omega, by go_num, Lib.hid ⟨HB.out.1.grown hgr (by intro e; injection e; omega), ?_, below_of_grown HB.out.2.2 hgr (Nat.le_of_lt HB.out.1.lt) (by omega)⟩⟩
        rw [HF.out]; exact hdg
      case measure => simp [intOf]; omega
    · have hd : decide ((k : Int) < (n : Int)) = false := by simp; omega
      have hkn : k = n := by omega
      have hdg := HB.out.2.1
      rw [hkn, List.take_of_length_le (by rw [HP.out]; omega)] at hdg
      have HD := Lib.hid hdg
      have HR2 : Hid (Roots wr) := Lib.hid (HR.out.below HB.out.2.2 (by omega))
      have HKN := Lib.hid hkn
      clear hdg hkn
      go_wp2_with fail
      refine (end_any HD.out HR2.out (by omega) hsz).mono ?_
      rintro e w3 ⟨rfl, hgr⟩
      have hNa := all_nums (Sm.dig ps.flatten)
      have HNS : Hid ((nums (Sm.dig ps.flatten)).toArray.size = 32) := Lib.hid (by simp [nums_len, bytesOf_len, Sm.dig, Sm.St.l])
      have HZ32 : Hid ((nums (zs 32)).toArray.size = 32) := Lib.hid rfl
      have K3 := Lib.hid (HB.out.1.grown hgr (by intro e; injection e; omega))
      have HB3 : Hid (Below B w w3) := Lib.hid (below_of_grown HB.out.2.2 hgr (Nat.le_of_lt HB.out.1.lt) (by omega))
      clear hgr HB
      with_reducible generalize hN : (nums (Sm.dig ps.flatten)).toArray = N at *
      go_wp2_with ((with_reducible show wpList _ _ _ ((⟨_, Op.store 32 _ _, _, _, _, _⟩ : Oper) :: _) _ _); refine wpList_store_row rfl _ (.tmp 2) (.tmp 17) rfl B N rfl rfl 32 _ K3.out (by rw [HNS.out]; exact info32) (by rw [HZ32.out, HNS.out]) hNa ?_)
      refine bodyPost_ret (results_one_cell rfl _ _ _ _ rfl (run_loadVar_row _ _ _ _ _ (0, 0) _ (K3.out.row N) und32 rfl (by rw [HNS.out]; exact info32))) rfl ?_
      exact ⟨by rw [hN], by rw [HBE.out]; exact below_row HB3.out (Nat.le_refl _) N⟩
end Go.Proofs.YtiogfkhmigbgpaaDoor
namespace Go.Proofs.YtiogfkhmigbgpaaDoor
set_option maxRecDepth 20000
open Go.RowKit
namespace Sm
def chg (y : Int) (l : List Int) : List Int := l.map fun x => ((x.toNat ^^^ y.toNat : Nat) : Int)
def kb (l : List Int) : List Int := if 64 < l.length then dig l ++ List.replicate 32 0 else l ++ List.replicate (64 - l.length) 0
def code (key text : List Int) : List Int := dig (chg 92 (kb key) ++ dig (chg 54 (kb key) ++ text))
end Sm
theorem xor8_lt {x y : Nat} (hx : x < 256) (hy : y < 256) : x ^^^ y < 256 := Nat.xor_lt_two_pow (n := 8) hx hy
theorem byt_chg {y : Int} {l : List Int} (hy : 0 ≤ y ∧ y < 256) (h : Byt l) : Byt (Sm.chg y l) := by
  intro z hz
  obtain ⟨x, hx, rfl⟩ := List.mem_map.1 hz
  have h1 := h x hx
  have := xor8_lt (x := x.toNat) (y := y.toNat) (by omega) (by omega)
  omega
theorem chg_len (y : Int) (l : List Int) : (Sm.chg y l).length = l.length := by simp [Sm.chg]
theorem dig_len (l : List Int) : (Sm.dig l).length = 32 := by rw [Sm.dig, bytesOf_len]; rfl
theorem byt_dig (l : List Int) : Byt (Sm.dig l) := byt_bytesOf _
theorem kb_len (l : List Int) : (Sm.kb l).length = 64 := by
  unfold Sm.kb
  split
  · simp [dig_len]
  · simp; omega
theorem byt_kb {l : List Int} (h : Byt l) : Byt (Sm.kb l) := by
  unfold Sm.kb
  split
  · exact byt_append (byt_dig l) (byt_zeros _)
  · exact byt_append h (byt_zeros _)
theorem zero64b : #[Value.int IntKind.u8 0, Value.int IntKind.u8 0, Value.int IntKind.u8 0, Value.int IntKind.u8 0, Value.int IntKind.u8 0, Value.int IntKind.u8 0, Value.int IntKind.u8 0, Value.int IntKind.u8 0, Value.int IntKind.u8 0, Value.int IntKind.u8 0, Value.int IntKind.u8 0, Value.int IntKind.u8 0, Value.int IntKind.u8 0, Value.int IntKind.u8 0, Value.int IntKind.u8 0, Value.int IntKind.u8 0, Value.int IntKind.u8 0, Value.int IntKind.u8 0, Value.int IntKind.u8 0, Value.int IntKind.u8 0, Value.int IntKind.u8 0, Value.int IntKind.u8 0, Value.int IntKind.u8 0, Value.int IntKind.u8 0, Value.int IntKind.u8 0, Value.int IntKind.u8 0, Value.int IntKind.u8 0, Value.int IntKind.u8 0, Value.int IntKind.u8 0, Value.int IntKind.u8 0, Value.int IntKind.u8 0, Value.int IntKind.u8 0, Value.int IntKind.u8 0, Value.int IntKind.u8 0, Value.int IntKind.u8 0, Value.int IntKind.u8 0, Value.int IntKind.u8 0, Value.int IntKind.u8 0, Value.int IntKind.u8 0, Value.int IntKind.u8 0, Value.int IntKind.u8 0, Value.int IntKind.u8 0, Value.int IntKind.u8 0, Value.int IntKind.u8 0, Value.int IntKind.u8 0, Value.int IntKind.u8 0, Value.int IntKind.u8 0, Value.int IntKind.u8 0, Value.int IntKind.u8 0, Value.int IntKind.u8 0, Value.int IntKind.u8 0, Value.int IntKind.u8 0, Value.int IntKind.u8 0, Value.int IntKind.u8 0, Value.int IntKind.u8 0, Value.int IntKind.u8 0, Value.int IntKind.u8 0, Value.int IntKind.u8 0, Value.int IntKind.u8 0, Value.int IntKind.u8 0, Value.int IntKind.u8 0, Value.int IntKind.u8 0, Value.int IntKind.u8 0, Value.int IntKind.u8 0] = (nums (zs 64)).toArray := rfl
theorem chg_set (y : Int) (b : List Int) (k : Nat) (hk : k < b.length) : (nums (Sm.chg y (b.take k) ++ b.drop k)).toArray.setIfInBounds k (.int .u8 (((b.getD k 0).toNat ^^^ y.toNat : Nat) : Int)) = (nums (Sm.chg y (b.take (k + 1)) ++ b.drop (k + 1))).toArray := by
  have e : b.drop k = b.getD k 0 :: b.drop (k + 1) := by
    rw [List.drop_eq_getElem_cons hk]
    simp [hk]
  rw [e, nums_set _ _ _ _ _ (by rw [chg_len, List.length_take]; omega)]
  congr 2
  have e2 : b.take (k + 1) = b.take k ++ [b.getD k 0] := by
    rw [List.take_succ_eq_append_getElem hk]; simp [hk]
  rw [e2]
  simp [Sm.chg]
theorem chg_get (y : Int) (b : List Int) (k : Nat) (hk : k < b.length) : (Sm.chg y (b.take k) ++ b.drop k).getD k 0 = b.getD k 0 := by
  have : (Sm.chg y (b.take k)).length = k := by rw [chg_len, List.length_take]; omega
  simp [List.getElem?_append_right, this]
theorem parts_whole {w : World} {S : Nat → Prop} {g : Nat} {T : TypeId} {vs : List Value} {ps : List (List Int)} (h : Whole w g T vs.toArray) (hS : S g) (hall : ∀ k, k < ps.length → ∃ a n c, vs[k]? = some (.slice a n c) ∧ Txt w S a n c (ps.getD k [])) : Parts w S (some ⟨g, 0, none⟩) ps.length ps := by
  refine ⟨rfl, Or.inr ⟨g, 0, rfl, hS, h.lt, fun k hk => ?_⟩⟩
  obtain ⟨a, n, c, h1, h2⟩ := hall k hk
  exact ⟨a, n, c, by rw [Nat.zero_add, h.cell, List.getElem?_toArray]; exact h1, h2⟩
theorem parts_one {w : World} {S : Nat → Prop} {g : Nat} {T : TypeId} {a : Option Addr} {n c : Nat} {l : List Int} (h : Whole w g T #[.slice a n c]) (hS : S g) (ht : Txt w S a n c l) : Parts w S (some ⟨g, 0, none⟩) 1 [l] :=
  parts_whole (vs := [.slice a n c]) h hS (fun k hk => by
    have : k = 0 := by simp at hk; exact hk
    subst this
    exact ⟨a, n, c, rfl, ht⟩)
theorem parts_two {w : World} {S : Nat → Prop} {g : Nat} {T : TypeId} {a a' : Option Addr} {n c n' c' : Nat} {l l' : List Int} (h : Whole w g T #[.slice a n c, .slice a' n' c']) (hS : S g) (ht : Txt w S a n c l) (ht' : Txt w S a' n' c' l') : Parts w S (some ⟨g, 0, none⟩) 2 [l, l'] :=
  parts_whole (vs := [.slice a n c, .slice a' n' c']) h hS (fun k hk => by
    simp at hk
    match k, hk with
    | 0, _ => exact ⟨a, n, c, rfl, ht⟩
    | 1, _ => exact ⟨a', n', c', rfl, ht'⟩)
theorem parts_three {w : World} {S : Nat → Prop} {g : Nat} {T : TypeId} {a a' a'' : Option Addr} {n c n' c' n'' c'' : Nat} {l l' l'' : List Int} (h : Whole w g T #[.slice a n c, .slice a' n' c', .slice a'' n'' c'']) (hS : S g) (ht : Txt w S a n c l) (ht' : Txt w S a' n' c' l') (ht'' : Txt w S a'' n'' c'' l'') : Parts w S (some ⟨g, 0, none⟩) 3 [l, l', l''] :=
  parts_whole (vs := [.slice a n c, .slice a' n' c', .slice a'' n'' c'']) h hS (fun k hk => by
    simp at hk
    match k, hk with
    | 0, _ => exact ⟨a, n, c, rfl, ht⟩
    | 1, _ => exact ⟨a', n', c', rfl, ht'⟩
    | 2, _ => exact ⟨a'', n'', c'', rfl, ht''⟩)
theorem splice_zs (l : List Int) : splice (nums (zs 64)) 0 (nums l) = nums (l ++ List.replicate (64 - l.length) 0) := by
  unfold splice
  rw [List.take_zero, List.nil_append, Nat.zero_add, ← nums_drop, nums_len, nums_append, zs, List.drop_replicate]
theorem splice_kb1 (l : List Int) (h : 64 < l.length) : splice (nums (zs 64)) 0 (nums (Sm.dig l)) = nums (Sm.kb l) := by
  rw [splice_zs, dig_len]
  unfold Sm.kb
  rw [if_pos h]
theorem splice_kb2 (l : List Int) (h : ¬ 64 < l.length) : splice (nums (zs 64)) 0 (nums l) = nums (Sm.kb l) := by
  rw [splice_zs]
  unfold Sm.kb
  rw [if_neg h]
end Go.Proofs.YtiogfkhmigbgpaaDoor
namespace Go.Proofs.YtiogfkhmigbgpaaDoor
set_option maxRecDepth 20000
open Go.RowKit
/-- What an alloc and the store of a whole row leave. -/
theorem put_row {w : World} {T : TypeId} {z N : Array Value} : Whole ((w.alloc (.cells z T)).setRow w.heap.size N) w.heap.size T N := (Whole.new w T z).row N
theorem put_far {w : World} {g : Nat} {T U : TypeId} {z N cs : Array Value} (h : Whole w g U cs) : Whole ((w.alloc (.cells z T)).setRow w.heap.size N) g U cs := (h.alloc _).rowFar (by have := h.lt; omega) N
theorem put_below {B : Nat} {a w : World} {T : TypeId} {z N : Array Value} (h : Below B a w) (hB : B ≤ w.heap.size) : Below B a ((w.alloc (.cells z T)).setRow w.heap.size N) := below_row (h.alloc hB _) hB N
theorem put_size {w : World} {T : TypeId} {z N : Array Value} : ((w.alloc (.cells z T)).setRow w.heap.size N).heap.size = w.heap.size + 1 := by simp [World.setRow]
end Go.Proofs.YtiogfkhmigbgpaaDoor
namespace Go.Proofs.YtiogfkhmigbgpaaDoor
set_option maxRecDepth 20000
open Go.RowKit
namespace Sm
/-- The greatest power of two below n, which is at least 2. -/
def pw (n : Nat) : Nat := 2 ^ (bitLen (n - 1) - 1)
end Sm
theorem pw_spec (n : Nat) (hn : 2 ≤ n) : 1 ≤ Sm.pw n ∧ Sm.pw n < n ∧ n ≤ 2 * Sm.pw n := by
  have h := bitLen_spec (n - 1)
  have h2 := h.2 (by omega)
  unfold Sm.pw
  have hb : 1 ≤ bitLen (n - 1) := by
    unfold bitLen
    rw [if_neg (by omega)]; omega
  have h3 : 2 ^ bitLen (n - 1) = 2 * 2 ^ (bitLen (n - 1) - 1) := by
    obtain ⟨k, hk⟩ : ∃ k, bitLen (n - 1) = k + 1 := ⟨bitLen (n - 1) - 1, by omega⟩
    rw [hk, Nat.add_sub_cancel, Nat.pow_succ]; omega
  have h4 : 0 < 2 ^ (bitLen (n - 1) - 1) := Nat.two_pow_pos _
  omega
namespace Sm
def treeF : Nat → List (List Int) → List Int
  | 0, _ => []
  | f + 1, l => if l.length = 0 then dig [] else if l.length = 1 then l.getD 0 [] else dig (1 :: (treeF f (l.take (pw l.length)) ++ treeF f (l.drop (pw l.length))))
def tree (l : List (List Int)) : List Int := treeF (l.length + 1) l
end Sm
theorem treeF_more (f : Nat) : ∀ (f' : Nat) (l : List (List Int)), l.length < f → l.length < f' → Sm.treeF f l = Sm.treeF f' l := by
  induction f with
  | zero => intro f' l h; omega
  | succ f ih =>
    intro f' l h h'
    obtain ⟨g, rfl⟩ : ∃ g, f' = g + 1 := ⟨f' - 1, by omega⟩
    simp only [Sm.treeF]
    split
    · rfl
    · split
      · rfl
      · have hp := pw_spec l.length (by omega)
        rw [ih g _ (by rw [List.length_take]; omega) (by rw [List.length_take]; omega), ih g _ (by rw [List.length_drop]; omega) (by rw [List.length_drop]; omega)]
theorem tree_nil : Sm.tree [] = Sm.dig [] := rfl
theorem tree_one (x : List Int) : Sm.tree [x] = x := rfl
theorem tree_more (l : List (List Int)) (h : 2 ≤ l.length) : Sm.tree l = Sm.dig (1 :: (Sm.tree (l.take (Sm.pw l.length)) ++ Sm.tree (l.drop (Sm.pw l.length)))) := by
  have hp := pw_spec l.length h
  unfold Sm.tree
  conv => lhs; unfold Sm.treeF
  rw [if_neg (by omega), if_neg (by omega), treeF_more _ ((l.take (Sm.pw l.length)).length + 1) _ (by rw [List.length_take]; omega) (by omega), treeF_more l.length ((l.drop (Sm.pw l.length)).length + 1) _ (by rw [List.length_drop]; omega) (by omega)]
/-- A digest. -/
def Dig (d : List Int) : Prop := d.length = 32 ∧ Byt d
theorem dig_ok (l : List Int) : Dig (Sm.dig l) := ⟨dig_len l, byt_dig l⟩
theorem tree_ok (l : List (List Int)) (h : ∀ d ∈ l, Dig d) : Dig (Sm.tree l) := by
  by_cases h2 : 2 ≤ l.length
  · rw [tree_more l h2]; exact dig_ok _
  · match l, h, h2 with
    | [], _, _ => exact dig_ok _
    | [x], h, _ => exact h x (by simp)
    | _ :: _ :: _, _, h2 => simp at h2
/-- The slice a, n of digests holds ds. -/
def Digs (w : World) (S : Nat → Prop) (a : Option Addr) (n : Nat) (ds : List (List Int)) : Prop :=
  ds.length = n ∧ (∀ d ∈ ds, Dig d) ∧ (ds = [] ∨ ∃ b off, a = some ⟨b, off, none⟩ ∧ S b ∧ b < w.heap.size ∧ ∀ k, k < n → w.rangeAt b (off + k * 32) (nums (ds.getD k [])))
section
variable {w w' : World} {S S' : Nat → Prop} {a : Option Addr} {n : Nat} {ds : List (List Int)}
theorem Digs.keep (h : Digs w S a n ds) (hz : w.heap.size ≤ w'.heap.size) (hk : ∀ b, b < w.heap.size → S b → w'.heap[b]? = w.heap[b]?) : Digs w' S a n ds := by
  obtain ⟨h1, h2, h4⟩ := h
  refine ⟨h1, h2, ?_⟩
  rcases h4 with h | ⟨b, off, rfl, hs, hb, hc⟩
  · exact Or.inl h
  · refine Or.inr ⟨b, off, rfl, hs, by omega, fun k hk' j v hv => ?_⟩
    exact (World.cell?_of_block (w := w) (hk b hb hs)).trans (hc k hk' j v hv)
theorem Digs.weak (h : Digs w S a n ds) (hs : ∀ b, b < w.heap.size → S b → S' b) : Digs w S' a n ds := by
  obtain ⟨h1, h2, h4⟩ := h
  refine ⟨h1, h2, ?_⟩
  rcases h4 with h | ⟨b, off, rfl, hs', hb, hc⟩
  · exact Or.inl h
  · exact Or.inr ⟨b, off, rfl, hs b hb hs', hb, hc⟩
theorem Digs.old (h : Digs w S a n ds) : Digs w (fun b => b < w.heap.size) a n ds := h.weak fun _ hb _ => hb
theorem Digs.below {B : Nat} (h : Digs w S a n ds) (hb : Below B w w') (hs : ∀ b, b < w.heap.size → S b → b < B) : Digs w' S a n ds :=
  h.keep hb.size fun b hlt hS => hb.block b (hs b hlt hS)
theorem Digs.nil (w : World) (S : Nat → Prop) (a : Option Addr) : Digs w S a 0 [] := ⟨rfl, (fun d hd => by cases hd), Or.inl rfl⟩
theorem Digs.take (h : Digs w S a n ds) (k : Nat) (hk : k ≤ n) : Digs w S a k (ds.take k) := by
  obtain ⟨h1, h2, h4⟩ := h
  refine ⟨by rw [List.length_take]; omega, fun d hd => h2 d (List.mem_of_mem_take hd), ?_⟩
  rcases h4 with h | ⟨b, off, rfl, hs, hb, hc⟩
  · subst h; exact Or.inl (by simp)
  · refine Or.inr ⟨b, off, rfl, hs, hb, fun j hj => ?_⟩
    have e : (ds.take k).getD j [] = ds.getD j [] := by
      have : j < ds.length := by omega
      simp [hj]
    rw [e]
    exact hc j (by omega)
theorem Digs.drop (h : Digs w S a n ds) (k c : Nat) (hk : k < n) (hc : n ≤ c) : Digs w S (if c = k then a else a.map (·.add (k * 32))) (n - k) (ds.drop k) := by
  obtain ⟨h1, h2, h4⟩ := h
  refine ⟨by rw [List.length_drop]; omega, fun d hd => h2 d (List.mem_of_mem_drop hd), ?_⟩
  rcases h4 with h | ⟨b, off, rfl, hs, hb, hcc⟩
  · subst h; simp at h1; omega
  · refine Or.inr ⟨b, off + k * 32, ?_, hs, hb, fun j hj => ?_⟩
    · rw [if_neg (by omega)]
      simp [Addr.add_lit]
    · have e : (ds.drop k).getD j [] = ds.getD (k + j) [] := by simp
      rw [e, show off + k * 32 + j * 32 = off + (k + j) * 32 by omega]
      exact hcc (k + j) (by omega)
end
theorem sz_32 (w : World) : (sizeOf 32).run Tryd.prog w = .ok 32 w := by
  cases hq : Tryd.prog.info? 32 with
  | none => have := info32; rw [hq] at this; cases this
  | some i =>
    have := info32
    rw [hq] at this
    simp only [Option.map_some, Option.some.injEq] at this
    simp [sizeOf, typeInfo, hq, this]
theorem slice_lo {a : Option Addr} {n c k : Nat} (h1 : k ≤ n) (w : World) : (Instr.slice 31 (.slice a n c) (some (.int .i64 (k : Int))) none none).run Tryd.prog w = .ok (.slice (if c = k then a else a.map (·.add (k * 32))) (n - k) (c - k)) w := by
  have hb : (0 : Int) ≤ (k : Int) ∧ (k : Int) ≤ (n : Int) := by omega
  simp only [Instr.slice, Instr.sliceBounds, Instr.sliceBound, Sem.run_bind, Sem.run_pure, Result.andThen_ok, run_underlying Tryd.underlying31, asIntOf, if_pos hb, sz_32, Int.toNat_natCast]
theorem slice_hi {a : Option Addr} {n c k : Nat} (h1 : k ≤ c) (hc : 0 < c) (w : World) : (Instr.slice 31 (.slice a n c) none (some (.int .i64 (k : Int))) none).run Tryd.prog w = .ok (.slice a k c) w := by
  have hb : (0 : Int) ≤ (k : Int) ∧ (k : Int) ≤ (c : Int) := by omega
  have e : (if c = 0 then a else Option.map (fun x => x.add (0 * 32)) a) = a := by
    rw [if_neg (by omega)]
    cases a <;> simp [Addr.add]
  simp only [Instr.slice, Instr.sliceBounds, Instr.sliceBound, Sem.run_bind, Sem.run_pure, Result.andThen_ok, run_underlying Tryd.underlying31, asIntOf, if_pos hb, sz_32, Int.toNat_natCast, e, Nat.sub_zero]
end Go.Proofs.YtiogfkhmigbgpaaDoor
