/-
  Digests in memory, and the walk of add.
-/
import Derived.Test.YtjpgepodkeccmaaDoorHx
import Derived.Test.YtjpgepodkeccmaaDoorHl
import Derived.Deep.RegionHeld3
namespace Go.Proofs.YtjpgepodkeccmaaDoor.Sh
open Go.Proofs.YtjpgepodkeccmaaDoor
set_option maxRecDepth 20000
open Go.RowKit
/-- The cells of a digest. -/
def dcells (s : Sm.St) (bf : List Int) (n : Nat) : List Value := wds s.l ++ (nums bf ++ [.int .u64 (n : Int)])
/-- The digest at block g was told l. -/
def Dg (w : World) (g : Nat) (l : List Int) : Prop := ∃ bf, Byt bf ∧ Sm.InBlock bf l ∧ Whole w g 78 (dcells (Sm.st l) bf l.length).toArray
theorem dcells_size (s : Sm.St) (bf : List Int) (n : Nat) (h : bf.length = 64) : (dcells s bf n).length = 73 := by simp [dcells, wds_len, nums_len, h, Sm.St.l]
theorem dcells_72 (s : Sm.St) (bf : List Int) (n : Nat) (h : bf.length = 64) : (dcells s bf n)[72]? = some (.int .u64 (n : Int)) := by
  have e : (wds s.l).length = 8 := rfl
  unfold dcells
  rw [List.getElem?_append_right (by rw [e]; omega), e, List.getElem?_append_right (by rw [nums_len]; omega), nums_len, h]
  rfl
theorem infou8 : (Tryd.prog.info? 5).map (·.size) = some 1 := by kernel_rfl
theorem dcells_splice (s : Sm.St) (bf x : List Int) (n r : Nat) {j : Nat} (h : bf.length = 64) (hx : x.length = j) (hr : r + j ≤ 64) :
    (List.take (8 + r) (dcells s bf n) ++ (nums x ++ List.drop (8 + r + j) (dcells s bf n))).toArray = (dcells s (Sm.laid bf r x) n).toArray := by
  have e : (wds s.l).length = 8 := rfl
  unfold dcells Sm.laid
  rw [List.take_append, List.drop_append, e, List.take_of_length_le (by omega), List.drop_eq_nil_of_le (by omega), Nat.add_sub_cancel_left, show 8 + r + j - 8 = r + j by omega]
  rw [List.take_append_of_le_length (by rw [nums_len]; omega), List.drop_append_of_le_length (by rw [nums_len]; omega)]
  simp [nums_append, nums_take, nums_drop, hx]
theorem dcells_set (s : Sm.St) (bf : List Int) (n m : Nat) (h : bf.length = 64) : (dcells s bf n).toArray.setIfInBounds 72 (.int .u64 ((n : Int) + (m : Int))) = (dcells s bf (n + m)).toArray := by
  have e : (wds s.l).length = 8 := rfl
  unfold dcells
  rw [List.setIfInBounds_toArray]
  congr 1
  rw [List.set_append_right _ _ (by rw [e]; omega), e, List.set_append_right _ _ (by rw [nums_len]; omega), nums_len, h]
  rfl
theorem grown_trans {a b c : World} {row : Option Nat} (h : a.grownBy b row) (h' : b.grownBy c row) : a.grownBy c row :=
  ⟨h'.os.trans h.os, h'.tape.trans h.tape, h'.output.trans h.output, Nat.le_trans h.size h'.size, fun k hk hne => (h'.block k (Nat.lt_of_lt_of_le hk h.size) hne).trans (h.block k hk hne)⟩
theorem grown_set {a b : World} {g : Nat} (h : a.grownBy b (some g)) (i : Nat) (v : Value) : a.grownBy (b.setCell ⟨g, i, none⟩ v) (some g) :=
  grown_trans h ⟨rfl, rfl, rfl, by simp [World.setCell], fun k _ hne => Below.heap_setCell b ⟨g, i, none⟩ v k (fun e => hne (by rw [e]))⟩
theorem range_st {w : World} {g : Nat} {s : Sm.St} {bf : List Int} {n : Nat} (h : Whole w g 78 (dcells s bf n).toArray) : w.rangeAt g 0 (wds s.l) := fun i v hv => by
  have hi : i < (wds s.l).length := (List.getElem?_eq_some_iff.1 hv).1
  rw [Nat.zero_add, h.cell, List.getElem?_toArray]
  unfold dcells
  rw [List.getElem?_append_left hi]; exact hv
theorem range_bf {w : World} {g : Nat} {s : Sm.St} {bf : List Int} {n : Nat} (h : Whole w g 78 (dcells s bf n).toArray) : w.rangeAt g 8 (nums bf) := fun i v hv => by
  have hi : i < (nums bf).length := (List.getElem?_eq_some_iff.1 hv).1
  have e : (wds s.l).length = 8 := rfl
  rw [h.cell, List.getElem?_toArray]
  unfold dcells
  rw [List.getElem?_append_right (by omega), e, Nat.add_sub_cancel_left, List.getElem?_append_left hi]; exact hv
theorem slice_from {a : Option Addr} {m c j : Nat} (h1 : j ≤ m) (w : World) : (Instr.slice 26 (.slice a m c) (some (.int .i64 (j : Int))) none none).run Tryd.prog w = .ok (.slice (if c = j then a else a.map (·.add j)) (m - j) (c - j)) w := by
  have hz : (sizeOf 5).run Tryd.prog w = .ok 1 w := by
    cases hq : Tryd.prog.info? 5 with
    | none => have := infou8; rw [hq] at this; cases this
    | some i =>
      have := infou8
      rw [hq] at this
      simp only [Option.map_some, Option.some.injEq] at this
      simp [sizeOf, typeInfo, hq, this]
  have hb : (0 : Int) ≤ (j : Int) ∧ (j : Int) ≤ (m : Int) := by omega
  simp only [Instr.slice, Instr.sliceBounds, Instr.sliceBound, Sem.run_bind, Sem.run_pure, Result.andThen_ok, run_underlying Tryd.underlying26, asIntOf, if_pos hb, hz, Int.toNat_natCast, Nat.mul_one]
theorem if_wanted {c : Bool} {p q : Prop} (h : c = true) (hp : p) : if c = true then p else q := by rw [if_pos h]; exact hp
theorem run_store_part {P : Program} (w : World) (g o : Nat) (n ty : TypeId) (cur cells : List Value) (hg : Whole w g n cur.toArray) (hi : (P.info? ty).map (·.size) = some cells.length) (h1 : ∀ v ∈ cells, v.oneCell' = true) (hf : o + cells.length ≤ cur.length) :
    (storeVar ty ⟨g, o, none⟩ (.agg cells.toArray)).run P w = .ok () (w.setRow g (splice cur o cells).toArray) := by
  have := run_storeCells_at (P := P) g o n cells 0 cur.toArray w hg (by simp; omega) h1
  cases hq : P.info? ty with
  | none => simp [hq] at hi
  | some i =>
    have hs : cells.length = i.size := by simp [hq] at hi; omega
    simp only [Nat.add_zero] at this
    simp [storeVar, sizeOf, typeInfo, hq, Value.cells, hs, this, splice]
theorem wp_store_part {P : Program} {op : Oper} {a : Act} {w : World} {K : Act → World → Prop} {Q : Exit → Act → World → Prop} {n : TypeId} {cur : List Value} (ty : TypeId) (x y : Operand) (ho : op.op = .store ty x y)
    (g o : Nat) (cells : List Value) (hx : a.eval x = .pointer (some ⟨g, o, none⟩)) (hy : a.eval y = .agg cells.toArray)
    (hg : Whole w g n cur.toArray) (hi : (P.info? ty).map (·.size) = some cells.length) (h1 : ∀ v ∈ cells, v.oneCell' = true) (hf : o + cells.length ≤ cur.length)
    (h : K (a.put op.dst undef) (w.setRow g (splice cur o cells).toArray)) : Oper.wp P op a w K Q := by
  unfold Oper.wp execOp
  simp only [ho, hx, hy, Instr.storeAt, Instr.sureAddr, Sem.run_bind, Sem.run_pure, Result.andThen_ok, run_store_part w g o n ty cur cells hg hi h1 hf]
  exact h
theorem dcells_state (s s' : Sm.St) (bf : List Int) (n : Nat) : (splice (dcells s bf n) 0 (wds s'.l)) = dcells s' bf n := by
  have e : (wds s.l).length = 8 := rfl
  have e' : (wds s'.l).length = 8 := rfl
  unfold splice dcells
  rw [List.take_zero, List.nil_append, e', Nat.zero_add, List.drop_append_of_le_length (by omega), List.drop_eq_nil_of_le (by omega), List.nil_append]
theorem grown_below {a b : World} {row : Option Nat} (h : Below a.heap.size a b) : a.grownBy b row := ⟨h.os, h.tape, h.output, h.size, fun k hk _ => h.block k hk⟩
theorem grown_row (w : World) (g : Nat) (cs : Array Value) : w.grownBy (w.setRow g cs) (some g) := ⟨rfl, rfl, rfl, by simp [World.setRow], fun i _ hne => setRow_other w g i _ (fun e => hne (by rw [e]))⟩
set_option linter.unusedSimpArgs false in
set_option maxHeartbeats 2000000 in
theorem add_any {g : Nat} {l t : List Int} {a : Option Addr} {n c : Nat} {w : World} (h : Dg w g l) (hR : Roots w) (hg : 2 ≤ g) (ht : Txt w (· ≠ g) a n c t) (hsz : l.length + n ≤ 1000000) :
    Calls Tryd.prog 36 #[.pointer (some ⟨g, 0, none⟩), .slice a n c] w fun e w' => e = .returned (.tuple #[]) ∧ Dg w' g (l ++ t) ∧ w.grownBy w' (some g) := by
  have H0 : Hid (Dg w g l ∧ Txt w (· ≠ g) a n c t) := Lib.hid ⟨h, ht⟩
  have HR := Lib.hid hR
  have HT : Hid (t.length = n) := Lib.hid ht.1
  clear h ht hR
  go_enter Tryd.func36, Tryd.ntmps36
  go_wp2
  go_loopw [1] (fun v wr => ∃ k a' c', k ≤ n ∧ v = .slice a' (n - k) c' ∧ Hid (Dg wr g (l ++ t.take k) ∧ Txt wr (· ≠ g) a' (n - k) c' (t.drop k) ∧ w.grownBy wr (some g))) (fun v _ => match v with | .slice _ m _ => m | _ => 0)
  case atStart => exact ⟨0, a, c, Nat.zero_le _, rfl, Lib.hid ⟨by simpa using H0.out.1, by simpa using H0.out.2, World.grownBy.refl _ _⟩⟩
  case round =>
    clear H0
    obtain ⟨k, a', c', hk, rfl, HB⟩ := hrel
    by_cases hlt : k < n
    · have hpos : 0 < n - k := by omega
      obtain ⟨m, hm⟩ : ∃ m, n - k = m := ⟨_, rfl⟩
      rw [hm] at HB hpos
      rw [hm]
      have HM := Lib.hid hm
      clear hm
      obtain ⟨⟨bf, hby, hin, hw⟩, htx, hgr⟩ := HB.out
      have hbl := hin.1
      obtain ⟨L, hL⟩ : ∃ L, l ++ t.take k = L := ⟨_, rfl⟩
      rw [hL] at hw hin
      obtain ⟨N, hN⟩ : ∃ N, L.length = N := ⟨_, rfl⟩
      rw [hN] at hw
      have hNs : N + m ≤ 1000000 := by
        rw [← hN, ← hL, List.length_append, List.length_take, HT.out]
        have := HM.out
        omega
      have c72 : wr.cell? ⟨g, 72, none⟩ = some (.int .u64 (N : Int)) := (hw.cell 72).trans (by rw [List.getElem?_toArray]; exact dcells_72 _ _ _ hbl)
      have HL := Lib.hid hL
      have HN := Lib.hid hN
      have HW := Lib.hid (And.intro hby (And.intro hin (And.intro hw (And.intro htx hgr))))
      clear hL hN hby hin hw htx hgr HB
      have hd : decide ((0 : Int) < (m : Int)) = true := by simp; omega
      obtain ⟨r, hr⟩ : ∃ r, N % 64 = r := ⟨_, rfl⟩
      have hmod : ((N : Int)).tmod 64 = (r : Int) := by rw [← hr]; rfl
      have hr64 : r < 64 := by omega
      have HRR := Lib.hid hr
      clear hr
      have q0 : (r : Int) ≤ 64 := by omega
      have q1 : ¬ (64 = r) := by omega
      have q2 : r ≤ 64 := by omega
      go_wp2
      go_still_tail 10, (by kernel_rfl)
      change wpList _ _ _ _ _ wr.drew
      obtain ⟨b, off, rfl, hbg, hblt, hrg⟩ := HW.out.2.2.2.1.cells hpos
      obtain ⟨j, hj⟩ : ∃ j, Nat.min m (64 - r) = j := ⟨_, rfl⟩
      obtain ⟨x, hx⟩ : ∃ x, (t.drop k).take j = x := ⟨_, rfl⟩
      have hj' : j = min m (64 - r) := hj.symm
      have hj1 : j ≤ m := by omega
      have hj2 : r + j ≤ 64 := by omega
      have hj0 : 0 < j := by omega
      have hxl : x.length = j := by
        rw [← hx, List.length_take, List.length_drop, HT.out, HM.out]; omega
      have hxb : Byt x := by rw [← hx]; exact byt_take HW.out.2.2.2.1.2.2.1 j
      have hsrc : ∀ i v, (nums x)[i]? = some v → wr.drew.cell? ((⟨b, off, none⟩ : Addr).add i) = some v := by
        intro i v hv
        rw [Addr.add_lit]
        refine hrg i v ?_
        have hi : i < x.length := by have := (List.getElem?_eq_some_iff.1 hv).1; rwa [nums_len] at this
        rw [← hx, nums_take, List.getElem?_take, if_pos (by omega)] at hv
        exact hv
      have HX := Lib.hid (And.intro hx (And.intro hxl (And.intro hxb hj')))
      clear hx hxb hj'
      refine wpList_copy_own rfl (.tmp 16) (.tmp 17) 26 26 rfl 5 Tryd.underlying26 infou8 g (8 + r) (64 - r) (64 - r) ⟨b, off, none⟩ m c' rfl rfl (dcells (Sm.st L) bf N).toArray 78 HW.out.2.2.1 (nums x) (by rw [nums_len, hxl]; exact hj.symm) hsrc (by rw [nums_len, hxl, List.size_toArray, dcells_size _ _ _ hbl]; omega) (nums_one x) ?_
      rw [nums_len, hxl, dcells_splice (Sm.st L) bf x N r hbl hxl hj2]
      have hw1 : Whole (wr.drew.setRow g (dcells (Sm.st L) (Sm.laid bf r x) N).toArray) g 78 (dcells (Sm.st L) (Sm.laid bf r x) N).toArray := Whole.row (cs := (dcells (Sm.st L) bf N).toArray) HW.out.2.2.1 _
      have hg1 : wr.grownBy (wr.drew.setRow g (dcells (Sm.st L) (Sm.laid bf r x) N).toArray) (some g) := ⟨rfl, rfl, rfl, by simp [World.setRow], fun i _ hne => setRow_other wr g i _ (fun e => hne (by rw [e]))⟩
      generalize wr.drew.setRow g (dcells (Sm.st L) (Sm.laid bf r x) N).toArray = w1 at *
      have hbl2 : (Sm.laid bf r x).length = 64 := Sm.laid_len hbl (by omega)
      have d72 : w1.cell? ⟨g, 72, none⟩ = some (.int .u64 (N : Int)) := (hw1.cell 72).trans (by rw [List.getElem?_toArray]; exact dcells_72 _ _ _ hbl2)
      have f72 : w1.frozen? ⟨g, 72, none⟩ = false := hw1.frozen 72
      have HW1 := Lib.hid (And.intro hw1 hg1)
      clear hw1 hg1 hsrc c72 hj hrg hmod q0 q1 q2
      have hcj : j ≤ c' := by have := HW.out.2.2.2.1.2.1; omega
      obtain ⟨A, hsl, htn⟩ : ∃ A, (∀ w, (Instr.slice 26 (.slice (some ⟨b, off, none⟩) m c') (some (.int .i64 (j : Int))) none none).run Tryd.prog w = .ok (.slice A (m - j) (c' - j)) w) ∧ Hid (Txt wr (· ≠ g) A (m - j) (c' - j) ((t.drop k).drop j)) :=
        ⟨_, slice_from hj1, Lib.hid (HW.out.2.2.2.1.drop j hj1)⟩
      have hw2 : Whole (w1.setCell ⟨g, 72, none⟩ (.int .u64 ((N : Int) + (j : Int)))) g 78 (dcells (Sm.st L) (Sm.laid bf r x) (N + j)).toArray := by
        have := HW1.out.1.set 72 (.int .u64 ((N : Int) + (j : Int)))
        rw [dcells_set _ _ _ _ hbl2] at this
        exact this
      have hg2 : wr.grownBy (w1.setCell ⟨g, 72, none⟩ (.int .u64 ((N : Int) + (j : Int)))) (some g) := grown_set HW1.out.2 _ _
      have HW2 := Lib.hid (And.intro hw2 hg2)
      clear hw2 hg2
      have hrl : Hid (r = L.length % 64) := Lib.hid (by rw [HN.out]; exact HRR.out.symm)
      have hLx : Hid (L ++ x = l ++ t.take (k + j)) := Lib.hid (by rw [← HL.out, ← HX.out.1, List.append_assoc, List.take_add])
      have hdd : Hid ((t.drop k).drop j = t.drop (k + j)) := Lib.hid (by rw [List.drop_drop])
      have hnk : Hid (m - j = n - (k + j)) := Lib.hid (by have := HM.out; omega)
      have HBY : Hid (Byt (Sm.laid bf r x)) := Lib.hid (byt_append (byt_take HW.out.1 r) (byt_append HX.out.2.2.1 (byt_drop HW.out.1 _)))
      by_cases hfull : r + j = 64
      · have he : (((N : Int) + (j : Int)) % 64 == 0) = true := by rw [beq_iff_eq]; have := HRR.out; omega
        have HIN : Hid (Sm.InBlock (Sm.laid bf r x) (L ++ x) ∧ Sm.st (L ++ x) = Sm.mix (Sm.st L) (Sm.laid bf r x)) := Lib.hid (by have := Sm.inBlock_full (x := x) HW.out.2.1 (by rw [← hrl.out, hxl]; exact hfull); rw [← hrl.out] at this; exact this)
        go_wp2
        generalize w1.setCell ⟨g, 72, none⟩ (.int .u64 ((N : Int) + (j : Int))) = w2 at *
        have r0 : w2.drew.rangeAt g 0 (wds (Sm.st L).l) := range_st HW2.out.1
        have r8 : w2.drew.rangeAt g 8 (nums (Sm.laid bf r x)) := range_bf HW2.out.1
        have hz2 : g < w2.drew.heap.size := HW2.out.1.lt
        have HR2 : Hid (Roots w2.drew) := Lib.hid (Roots.keep (w := w2) (HR.out.grown (grown_trans HW.out.2.2.2.2 HW2.out.2) (fun b e => by injection e with e; omega)) (fun _ _ => rfl))
        refine wp_region_held_drew (S := fun _ => True) (by kernel_rfl) trivial (fun hHeld => ?_)
        refine wpAnyH_take (i := 0) (v := .pointer (some ⟨g, 0, none⟩)) rfl (by kernel_rfl) (by kernel_rfl) (by kernel_rfl) (fun _ _ _ h => h) (Or.inl ⟨by rfl, (by intro w hSw; (try dsimp only at hSw); go_simp)⟩) (by assumption) ?_
        try simp only [Act.put, List.getElem_toArray, List.getElem_cons_zero, List.getElem_cons_succ, List.setIfInBounds_toArray, List.set_cons_zero, List.set_cons_succ]
        refine wpAnyH_take (i := 1) (v := .pointer (some ⟨g, 0, none⟩)) rfl (by kernel_rfl) (by kernel_rfl) (by kernel_rfl) (fun _ _ _ h => h) (Or.inl ⟨by rfl, (by intro w hSw; (try dsimp only at hSw); go_simp)⟩) (by assumption) ?_
        try simp only [Act.put, List.getElem_toArray, List.getElem_cons_zero, List.getElem_cons_succ, List.setIfInBounds_toArray, List.set_cons_zero, List.set_cons_succ]
        refine wpAnyH_take (i := 2) (v := .pointer (some ⟨g, 0, none⟩)) rfl (by kernel_rfl) (by kernel_rfl) (by kernel_rfl) (fun _ _ _ h => h) (Or.inl ⟨by rfl, (by intro w hSw; (try dsimp only at hSw); go_simp)⟩) (by assumption) ?_
        try simp only [Act.put, List.getElem_toArray, List.getElem_cons_zero, List.getElem_cons_succ, List.setIfInBounds_toArray, List.set_cons_zero, List.set_cons_succ]
        refine wpAnyH_take (i := 3) (v := .pointer (some ⟨g, 0, none⟩)) rfl (by kernel_rfl) (by kernel_rfl) (by kernel_rfl) (fun _ _ _ h => h) (Or.inl ⟨by rfl, (by intro w hSw; (try dsimp only at hSw); go_simp)⟩) (by assumption) ?_
        try simp only [Act.put, List.getElem_toArray, List.getElem_cons_zero, List.getElem_cons_succ, List.setIfInBounds_toArray, List.set_cons_zero, List.set_cons_succ]
        refine wpAnyH_take (i := 5) (v := .pointer (some ⟨g, 0, none⟩)) rfl (by kernel_rfl) (by kernel_rfl) (by kernel_rfl) (fun _ _ _ h => h) (Or.inl ⟨by rfl, (by intro w hSw; (try dsimp only at hSw); go_simp)⟩) (by assumption) ?_
        try simp only [Act.put, List.getElem_toArray, List.getElem_cons_zero, List.getElem_cons_succ, List.setIfInBounds_toArray, List.set_cons_zero, List.set_cons_succ]
        refine wpAnyH_take (i := 6) (v := .pointer (some ⟨g, 0, none⟩)) rfl (by kernel_rfl) (by kernel_rfl) (by kernel_rfl) (fun _ _ _ h => h) (Or.inl ⟨by rfl, (by intro w hSw; (try dsimp only at hSw); go_simp)⟩) (by assumption) ?_
        try simp only [Act.put, List.getElem_toArray, List.getElem_cons_zero, List.getElem_cons_succ, List.setIfInBounds_toArray, List.set_cons_zero, List.set_cons_succ]
        refine wpAnyH_take (i := 7) (v := .pointer (some ⟨g, 8, none⟩)) rfl (by kernel_rfl) (by kernel_rfl) (by kernel_rfl) (fun _ _ _ h => h) (Or.inl ⟨by rfl, (by intro w hSw; (try dsimp only at hSw); go_simp)⟩) (by assumption) ?_
        try simp only [Act.put, List.getElem_toArray, List.getElem_cons_zero, List.getElem_cons_succ, List.setIfInBounds_toArray, List.set_cons_zero, List.set_cons_succ]
        refine wpAnyH_ready (rs := [4, 8]) (by kernel_rfl) (by simp) (AllReadyH.cons rfl (fun K hK => ?_) (AllReadyH.cons rfl (fun K hK => ?_) AllReadyH.nil))
        · try simp only [List.getElem_toArray, List.getElem_cons_zero, List.getElem_cons_succ]
          refine if_wanted (by rfl) ?_
          refine wp_load_mid _ _ rfl _ _ rfl _ _ r0 undW8 rfl (by rw [wds_len]; exact infoW8) ?_
          refine hK.out _ _ trivial (fun hHeld => ?_)
          clear hK K
          try simp only [Act.put, List.getElem_toArray, List.getElem_cons_zero, List.getElem_cons_succ, List.setIfInBounds_toArray, List.set_cons_zero, List.set_cons_succ]
          refine wpAnyH_ready (rs := [8]) (by kernel_rfl) (by simp) (AllReadyH.cons rfl (fun K hK => ?_) AllReadyH.nil)
          try simp only [List.getElem_toArray, List.getElem_cons_zero, List.getElem_cons_succ]
          refine if_wanted (by rfl) ?_
          refine wp_load_mid _ _ rfl _ _ rfl _ _ r8 undB64 rfl (by rw [nums_len, hbl2]; exact infoB64) ?_
          refine hK.out _ _ trivial (fun hHeld => ?_)
          clear hK K
          try simp only [Act.put, List.getElem_toArray, List.getElem_cons_zero, List.getElem_cons_succ, List.setIfInBounds_toArray, List.set_cons_zero, List.set_cons_succ]
          refine wpAnyH_ready (rs := [9]) (by kernel_rfl) (by simp) (AllReadyH.cons rfl (fun K hK => ?_) AllReadyH.nil)
          try simp only [List.getElem_toArray, List.getElem_cons_zero, List.getElem_cons_succ]
          go_simp
          go_at_call 41
          refine (mixed_any (Sm.st L) (Sm.laid bf r x) w2.drew HR2.out HBY.out hbl2).mono ?_
          rintro e w3 ⟨rfl, hb3⟩
          have hw3 : Whole w3 g 78 (dcells (Sm.st L) (Sm.laid bf r x) (N + j)).toArray := Whole.below (w := w2.drew) HW2.out.1 hb3 hz2
          have HB3 : Hid (Below w2.heap.size w2 w3) := Lib.hid (below_drew hb3)
          have HW3 := Lib.hid hw3
          clear hb3 hw3 r0 r8
          go_wp2_with fail
          refine hK.out _ _ trivial (fun hHeld => ?_)
          clear hK K
          try simp only [Act.put, List.getElem_toArray, List.getElem_cons_zero, List.getElem_cons_succ, List.setIfInBounds_toArray, List.set_cons_zero, List.set_cons_succ]
          refine wpAnyH_take (i := 10) (v := .pointer (some ⟨g, 0, none⟩)) rfl (by kernel_rfl) (by kernel_rfl) (by kernel_rfl) (fun _ _ _ h => h) (Or.inl ⟨by rfl, (by intro w hSw; (try dsimp only at hSw); go_simp)⟩) (by assumption) ?_
          try simp only [Act.put, List.getElem_toArray, List.getElem_cons_zero, List.getElem_cons_succ, List.setIfInBounds_toArray, List.set_cons_zero, List.set_cons_succ]
          refine wpAnyH_take (i := 11) (v := .pointer (some ⟨g, 0, none⟩)) rfl (by kernel_rfl) (by kernel_rfl) (by kernel_rfl) (fun _ _ _ h => h) (Or.inl ⟨by rfl, (by intro w hSw; (try dsimp only at hSw); go_simp)⟩) (by assumption) ?_
          try simp only [Act.put, List.getElem_toArray, List.getElem_cons_zero, List.getElem_cons_succ, List.setIfInBounds_toArray, List.set_cons_zero, List.set_cons_succ]
          refine wpAnyH_ready (rs := [12]) (by kernel_rfl) (by simp) (AllReadyH.cons rfl (fun K hK => ?_) AllReadyH.nil)
          try simp only [List.getElem_toArray, List.getElem_cons_zero, List.getElem_cons_succ]
          refine if_wanted (by rfl) ?_
          refine wp_store_part (n := 78) _ _ _ rfl g 0 (wds (Sm.mix (Sm.st L) (Sm.laid bf r x)).l) rfl rfl HW3.out (by rw [wds_len]; exact infoW8) (wds_one _) (by rw [wds_len, dcells_size _ _ _ hbl2]; show 8 ≤ 73; omega) ?_
          refine hK.out _ _ trivial (fun hHeld => ?_)
          clear hK K
          try simp only [Act.put, List.getElem_toArray, List.getElem_cons_zero, List.getElem_cons_succ, List.setIfInBounds_toArray, List.set_cons_zero, List.set_cons_succ]
          refine wpAnyH_done (by kernel_rfl) ?_ _
          rw [dcells_state]
          have hw4 := HW3.out.row (dcells (Sm.mix (Sm.st L) (Sm.laid bf r x)) (Sm.laid bf r x) (N + j)).toArray
          have hg4 : wr.grownBy (w3.setRow g (dcells (Sm.mix (Sm.st L) (Sm.laid bf r x)) (Sm.laid bf r x) (N + j)).toArray) (some g) := grown_trans (grown_trans HW2.out.2 (grown_below HB3.out)) (grown_row _ _ _)
          generalize w3.setRow g (dcells (Sm.mix (Sm.st L) (Sm.laid bf r x)) (Sm.laid bf r x) (N + j)).toArray = w4 at *
          have HW4 := Lib.hid (And.intro hw4 hg4)
          clear hw4 hg4
          go_wp2
          go_roundw
          case rel =>
            refine ⟨k + j, A, c' - j, by have := HM.out; omega, by rw [← hnk.out], Lib.hid ⟨?_, ?_, grown_trans HW.out.2.2.2.2 HW4.out.2⟩⟩
            · rw [← hLx.out]
              exact ⟨_, HBY.out, HIN.out.1, by rw [HIN.out.2, List.length_append, HN.out, hxl]; exact HW4.out.1⟩
            · rw [← hdd.out, ← hnk.out]
              exact htn.out.grown HW4.out.2 (fun b _ hb => fun e => hb (by injection e))
          case measure => simp; omega
        · try simp only [List.getElem_toArray, List.getElem_cons_zero, List.getElem_cons_succ]
          refine if_wanted (by rfl) ?_
          refine wp_load_mid _ _ rfl _ _ rfl _ _ r8 undB64 rfl (by rw [nums_len, hbl2]; exact infoB64) ?_
          refine hK.out _ _ trivial (fun hHeld => ?_)
          clear hK K
          try simp only [Act.put, List.getElem_toArray, List.getElem_cons_zero, List.getElem_cons_succ, List.setIfInBounds_toArray, List.set_cons_zero, List.set_cons_succ]
          refine wpAnyH_ready (rs := [4]) (by kernel_rfl) (by simp) (AllReadyH.cons rfl (fun K hK => ?_) AllReadyH.nil)
          try simp only [List.getElem_toArray, List.getElem_cons_zero, List.getElem_cons_succ]
          refine if_wanted (by rfl) ?_
          refine wp_load_mid _ _ rfl _ _ rfl _ _ r0 undW8 rfl (by rw [wds_len]; exact infoW8) ?_
          refine hK.out _ _ trivial (fun hHeld => ?_)
          clear hK K
          try simp only [Act.put, List.getElem_toArray, List.getElem_cons_zero, List.getElem_cons_succ, List.setIfInBounds_toArray, List.set_cons_zero, List.set_cons_succ]
          refine wpAnyH_ready (rs := [9]) (by kernel_rfl) (by simp) (AllReadyH.cons rfl (fun K hK => ?_) AllReadyH.nil)
          try simp only [List.getElem_toArray, List.getElem_cons_zero, List.getElem_cons_succ]
          go_simp
          go_at_call 41
          refine (mixed_any (Sm.st L) (Sm.laid bf r x) w2.drew HR2.out HBY.out hbl2).mono ?_
          rintro e w3 ⟨rfl, hb3⟩
          have hw3 : Whole w3 g 78 (dcells (Sm.st L) (Sm.laid bf r x) (N + j)).toArray := Whole.below (w := w2.drew) HW2.out.1 hb3 hz2
          have HB3 : Hid (Below w2.heap.size w2 w3) := Lib.hid (below_drew hb3)
          have HW3 := Lib.hid hw3
          clear hb3 hw3 r0 r8
          go_wp2_with fail
          refine hK.out _ _ trivial (fun hHeld => ?_)
          clear hK K
          try simp only [Act.put, List.getElem_toArray, List.getElem_cons_zero, List.getElem_cons_succ, List.setIfInBounds_toArray, List.set_cons_zero, List.set_cons_succ]
          refine wpAnyH_take (i := 10) (v := .pointer (some ⟨g, 0, none⟩)) rfl (by kernel_rfl) (by kernel_rfl) (by kernel_rfl) (fun _ _ _ h => h) (Or.inl ⟨by rfl, (by intro w hSw; (try dsimp only at hSw); go_simp)⟩) (by assumption) ?_
          try simp only [Act.put, List.getElem_toArray, List.getElem_cons_zero, List.getElem_cons_succ, List.setIfInBounds_toArray, List.set_cons_zero, List.set_cons_succ]
          refine wpAnyH_take (i := 11) (v := .pointer (some ⟨g, 0, none⟩)) rfl (by kernel_rfl) (by kernel_rfl) (by kernel_rfl) (fun _ _ _ h => h) (Or.inl ⟨by rfl, (by intro w hSw; (try dsimp only at hSw); go_simp)⟩) (by assumption) ?_
          try simp only [Act.put, List.getElem_toArray, List.getElem_cons_zero, List.getElem_cons_succ, List.setIfInBounds_toArray, List.set_cons_zero, List.set_cons_succ]
          refine wpAnyH_ready (rs := [12]) (by kernel_rfl) (by simp) (AllReadyH.cons rfl (fun K hK => ?_) AllReadyH.nil)
          try simp only [List.getElem_toArray, List.getElem_cons_zero, List.getElem_cons_succ]
          refine if_wanted (by rfl) ?_
          refine wp_store_part (n := 78) _ _ _ rfl g 0 (wds (Sm.mix (Sm.st L) (Sm.laid bf r x)).l) rfl rfl HW3.out (by rw [wds_len]; exact infoW8) (wds_one _) (by rw [wds_len, dcells_size _ _ _ hbl2]; show 8 ≤ 73; omega) ?_
          refine hK.out _ _ trivial (fun hHeld => ?_)
          clear hK K
          try simp only [Act.put, List.getElem_toArray, List.getElem_cons_zero, List.getElem_cons_succ, List.setIfInBounds_toArray, List.set_cons_zero, List.set_cons_succ]
          refine wpAnyH_done (by kernel_rfl) ?_ _
          rw [dcells_state]
          have hw4 := HW3.out.row (dcells (Sm.mix (Sm.st L) (Sm.laid bf r x)) (Sm.laid bf r x) (N + j)).toArray
          have hg4 : wr.grownBy (w3.setRow g (dcells (Sm.mix (Sm.st L) (Sm.laid bf r x)) (Sm.laid bf r x) (N + j)).toArray) (some g) := grown_trans (grown_trans HW2.out.2 (grown_below HB3.out)) (grown_row _ _ _)
          generalize w3.setRow g (dcells (Sm.mix (Sm.st L) (Sm.laid bf r x)) (Sm.laid bf r x) (N + j)).toArray = w4 at *
          have HW4 := Lib.hid (And.intro hw4 hg4)
          clear hw4 hg4
          go_wp2
          go_roundw
          case rel =>
            refine ⟨k + j, A, c' - j, by have := HM.out; omega, by rw [← hnk.out], Lib.hid ⟨?_, ?_, grown_trans HW.out.2.2.2.2 HW4.out.2⟩⟩
            · rw [← hLx.out]
              exact ⟨_, HBY.out, HIN.out.1, by rw [HIN.out.2, List.length_append, HN.out, hxl]; exact HW4.out.1⟩
            · rw [← hdd.out, ← hnk.out]
              exact htn.out.grown HW4.out.2 (fun b _ hb => fun e => hb (by injection e))
          case measure => simp; omega
      · have he : (((N : Int) + (j : Int)) % 64 == 0) = false := by rw [beq_eq_false_iff_ne]; have := HRR.out; omega
        have HIN : Hid (Sm.InBlock (Sm.laid bf r x) (L ++ x) ∧ Sm.st (L ++ x) = Sm.st L) := Lib.hid (by have h1 := Sm.inBlock_same (x := x) HW.out.2.1 (by rw [← hrl.out, hxl]; omega); have h2 := Sm.st_same L x (by rw [← hrl.out, hxl]; omega); rw [← hrl.out] at h1; exact ⟨h1, h2⟩)
        go_wp2
        go_roundw
        case rel =>
          refine ⟨k + j, A, c' - j, by have := HM.out; omega, by rw [← hnk.out], Lib.hid ⟨?_, ?_, grown_trans HW.out.2.2.2.2 HW2.out.2⟩⟩
          · rw [← hLx.out]
            exact ⟨_, HBY.out, HIN.out.1, by rw [HIN.out.2, List.length_append, HN.out, hxl]; exact HW2.out.1⟩
          · rw [← hdd.out, ← hnk.out]
            exact htn.out.grown HW2.out.2 (fun b _ hb => fun e => hb (by injection e))
        case measure => simp; omega
    · have hkn : k = n := by omega
      have hd : decide ((0 : Int) < ((n - k : Nat) : Int)) = false := by simp; omega
      have HKN := Lib.hid hkn
      clear hkn
      go_wp2
      go_end0
      have h1 := HB.out.1
      rw [HKN.out, List.take_of_length_le (by rw [HT.out]; omega)] at h1
      exact ⟨rfl, h1, HB.out.2.2⟩
end Go.Proofs.YtjpgepodkeccmaaDoor.Sh
