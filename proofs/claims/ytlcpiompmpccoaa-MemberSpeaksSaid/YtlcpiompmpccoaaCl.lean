/-
  The walk of MemberOwn.
-/
import Derived.Test.YtlcpiompmpccoaaCk
namespace Go.Proofs.Ytlcpiompmpccoaa
open Go.RowKit Go.Great
set_option linter.unusedVariables false
set_option linter.unusedSimpArgs false
set_option maxRecDepth 20000
open Mb
theorem sz_mem (w : World) : (sizeOf 24).run Try.prog w = .ok 2 w := by
  obtain ⟨i, hi, hz, hsize, hby⟩ := info_parts mem_info
  simp [sizeOf, typeInfo, hi, hsize]
theorem run_build0M (w : World) : (Instr.buildSlice 30 0 #[]).run Try.prog w = .ok (.slice (some ⟨w.heap.size, 0, none⟩) 0 0) (w.alloc (.cells #[] 24)) := by
  have e : Array.map (fun _ => (default : Value)) (Array.range 0) = #[] := by simp
  simp [Instr.buildSlice, run_underlying Try.underlying30, sz_mem, Instr.fill, newRow, e]
theorem wpList_build0M {ops : Array Oper} {rest : List Oper} {o : Oper} {a : Act} {w : World} {Q : Exit → Act → World → Prop} (hg : Region.wanted o (yielded ops a.tmps) = true) (ho : o.op = .buildSlice 30 0 #[])
    (h : wpList Try.prog ops Q rest (a.put o.dst (.slice (some ⟨w.heap.size, 0, none⟩) 0 0)) (w.alloc (.cells #[] 24))) : wpList Try.prog ops Q (o :: rest) a w :=
  wpList_step fun _ hK => by
    rw [if_pos hg]
    unfold Oper.wp execOp
    simp only [ho, Sem.run_bind, List.map_toArray, List.map_nil, Array.map_empty, run_build0M, Result.andThen_ok]
    exact hK _ _ h
theorem empty_own (w : World) : (w.alloc (.cells #[] 24)).ownsRow w.heap.size 24 2 (.slice (some ⟨w.heap.size, 0, none⟩) 0 0) 0 [] :=
  World.ownsRow_lit (base := w.heap.size) (size := 2) (e := 24) w #[] 0 (Nat.le_refl _) (Nat.zero_le _) rfl
/-- What a copy of a row is: a row of one's own, and all that was there is as it was. -/
theorem copied {w w' : World} {v' : Value} {n : Nat} {l : List M} (hl : l.length = n) (hm : ∀ m ∈ l, Min m) (hown : w'.ownsRow w.heap.size 24 2 v' n (flatM l))
    (hg : (w.alloc (.cells #[] 24)).grownBy w' (Value.slice (some ⟨w.heap.size, 0, none⟩) 0 0).ownBlock) : ∃ a c, v' = .slice a n c ∧ Mow w' w.heap.size a n c l ∧ Below w.heap.size w w' := by
  obtain ⟨a, c, rfl, hc, h⟩ := own_ms hown hm hl
  refine ⟨a, c, rfl, ⟨hown, hm, hl⟩, (below_alloc w (.cells #[] 24)).grown hg (below_alloc w _).size fun k hk => ?_⟩
  simp [Value.ownBlock] at hk
  omega
/-- Behind stores to one block: all others are as they were. -/
structure Bar (g : Nat) (w w' : World) : Prop where
  below : Below g w w'
  size : w'.heap.size = w.heap.size
  rest : ∀ b, b ≠ g → w'.heap[b]? = w.heap[b]?
theorem Bar.refl (g : Nat) (w : World) : Bar g w w := ⟨Below.refl _ _, rfl, fun _ _ => rfl⟩
theorem Bar.row {g : Nat} {w w' : World} (h : Bar g w w') (cs : Array Value) : Bar g w (w'.setRow g cs) :=
  ⟨below_row h.below (Nat.le_refl _) _, by rw [← h.size]; simp [World.setRow], fun b hb => (setRow_other _ _ _ _ hb).trans (h.rest b hb)⟩
theorem own_geM {w : World} {B : Nat} {v : Value} {e s n : Nat} {xs : List Value} (h : w.ownsRow B e s v n xs) (b : Nat) (hb : v.ownBlock = some b) : B ≤ b := (h.lt b hb).1
theorem Mow.bar {w w' : World} {B g : Nat} {a : Option Addr} {n c : Nat} {l : List M} (h : Mow w B a n c l) (hb : Bar g w w') (hg : g < B) : Mow w' B a n c l :=
  ⟨own_keepM h.own (fun b hq => hb.rest b (by have := own_geM h.own b hq; omega)), h.mem, h.len⟩
theorem len_max {n m k : Nat} {l l' : List M} (h : l.length = n) (h' : l'.length = m) (hk : (all l l').length = k) : k = max n m := by rw [← h, ← h', ← hk, all_len]
theorem run_store_part {P : Program} (w : World) (g o : Nat) (n ty : TypeId) (cur cells : List Value) (hg : Whole w g n cur.toArray) (hi : (P.info? ty).map (·.size) = some cells.length) (h1 : ∀ v ∈ cells, v.oneCell' = true) (hf : o + cells.length ≤ cur.length) :
    (storeVar ty ⟨g, o, none⟩ (.agg cells.toArray)).run P w = .ok () (w.setRow g (splice cur o cells).toArray) := by
  have := run_storeCells_at (P := P) g o n cells 0 cur.toArray w hg (by simp; omega) h1
  cases hq : P.info? ty with
  | none => simp [hq] at hi
  | some i =>
    have hs : cells.length = i.size := by simp [hq] at hi; omega
    simp only [Nat.add_zero] at this
    simp [storeVar, sizeOf, typeInfo, hq, Value.cells, hs, this, splice]
theorem wp_store_part {P : Program} {op : Oper} {a : Act} {w : World} {K : Act → World → Prop} {Q : Exit → Act → World → Prop} {n : TypeId} {cur : List Value} (ty : TypeId) (x y : Operand) (ho : op.op = .store ty x y)
    (g o : Nat) (cells : List Value) (hx : a.eval x = .pointer (some ⟨g, o, none⟩)) (hy : a.eval y = .agg cells.toArray)
    (hg : Whole w g n cur.toArray) (hi : (P.info? ty).map (·.size) = some cells.length) (h1 : ∀ v ∈ cells, v.oneCell' = true) (hf : o + cells.length ≤ cur.length)
    (h : K (a.put op.dst undef) (w.setRow g (splice cur o cells).toArray)) : Oper.wp P op a w K Q := by
  unfold Oper.wp execOp
  simp only [ho, hx, hy, Instr.storeAt, Instr.sureAddr, Sem.run_bind, Sem.run_pure, Result.andThen_ok, run_store_part w g o n ty cur cells hg hi h1 hf]
  exact h
theorem wpList_store_part {P : Program} {ops : Array Oper} {rest : List Oper} {op : Oper} {a : Act} {w : World} {Q : Exit → Act → World → Prop} (hgd : op.guard = none) {n : TypeId} {cur : List Value} (ty : TypeId) (x y : Operand) (ho : op.op = .store ty x y)
    (g o : Nat) (cells : List Value) (hx : a.eval x = .pointer (some ⟨g, o, none⟩)) (hy : a.eval y = .agg cells.toArray)
    (hg : Whole w g n cur.toArray) (hi : (P.info? ty).map (·.size) = some cells.length) (h1 : ∀ v ∈ cells, v.oneCell' = true) (hf : o + cells.length ≤ cur.length)
    (h : wpList P ops Q rest (a.put op.dst undef) (w.setRow g (splice cur o cells).toArray)) : wpList P ops Q (op :: rest) a w :=
  wpList_plain hgd fun _ hK => wp_store_part ty x y ho g o cells hx hy hg hi h1 hf (hK _ _ h)
theorem built_7 : Try.prog.built 24 [(0, .int .i64 (-7))] = some (mc (-7, 0)) := by kernel_rfl
/-- All that the walk keeps: the two rows that came in, and their copies, as they were in the world w. -/
structure Qua (w0 w : World) (a b x y : Option Addr) (n m : Nat) (l l' : List M) : Prop where
  a : Ms w Any a n l
  b : Ms w Any b m l'
  x : Ms w Any x n l
  y : Ms w Any y m l'
  below : Below w0.heap.size w0 w
theorem Qua.on {w0 w w' : World} {a b x y : Option Addr} {n m : Nat} {l l' : List M} (h : Qua w0 w a b x y n m l l') (hb : Below w.heap.size w w') : Qua w0 w' a b x y n m l l' :=
  ⟨h.a.on hb, h.b.on hb, h.x.on hb, h.y.on hb, h.below.trans (hb.mono h.below.size)⟩
set_option maxHeartbeats 8000000 in
theorem own_walk (hm : Mem) (hw : Awake) {w : World} {S S' : Nat → Prop} {a b : Option Addr} {n m c d : Nat} {l l' : List M} (h : Ms w S a n l) (hc : n ≤ c) (h' : Ms w S' b m l') (hc' : m ≤ d) :
    Calls Try.prog 9 #[.slice a n c, .slice b m d] w fun e w' => e = .returned (.bool true) ∧ Below w.heap.size w w' := by
  have HM := Lib.hid hm
  have HA := Lib.hid hw
  have H : Hid (Ms w Any a n l ∧ Ms w Any b m l') := Lib.hid ⟨h.any, h'.any⟩
  have HL := Lib.hid (And.intro h.1 h'.1)
  have HMM := Lib.hid (And.intro h.2.1 h'.2.1)
  have HC := Lib.hid (And.intro hc hc')
  clear hm hw h h' hc hc'
  go_enter Try.func9, Try.ntmps9
  go_wp2_with fail
  refine (HA.out w).mono ?_
  rintro e w1 ⟨rfl, hb1⟩
  have H1 := Lib.hid (And.intro (H.out.1.on hb1) (And.intro (H.out.2.on hb1) hb1))
  clear hb1 H
  by_cases z : (n : Int) > 50
  · go_wp2
    go_ret
    exact ⟨rfl, H1.out.2.2⟩
  by_cases z' : (m : Int) > 50
  · go_wp2
    go_ret
    exact ⟨rfl, H1.out.2.2⟩
  have q0 : decide ((50 : Int) < (n : Int)) = false := by simp; omega
  have q1 : decide ((50 : Int) < (m : Int)) = false := by simp; omega
  have HN : Hid (n ≤ 50 ∧ m ≤ 50) := Lib.hid ⟨by omega, by omega⟩
  go_wp2_with (first | ((with_reducible show wpList _ _ _ ((⟨_, Op.buildSlice _ 0 _, _, _, _, _⟩ : Oper) :: _) _ _); refine wpList_build0M (by rfl) rfl ?_) | ((with_reducible show wpList _ _ _ ((⟨some 23, _, _, _, _, _⟩ : Oper) :: _) _ _); refine wpList_append_ms _ (by rfl) (.tmp 21) (.tmp 22) rfl w1.heap.size (.slice (some ⟨w1.heap.size, 0, none⟩) 0 0) 0 [] rfl (empty_own w1) Any a n c l rfl (H1.out.1.on (below_alloc w1 _)) (by omega) (by omega) (by simp) ?_) | fail)
  intro vx w2 hown hg _
  obtain ⟨x, cx, rfl, hmx, hb2⟩ := copied HL.out.1 HMM.out.1 hown hg
  have H2 := Lib.hid (And.intro (H1.out.1.on hb2) (And.intro (H1.out.2.1.on hb2) (And.intro hmx.any (H1.out.2.2.trans (hb2.mono H1.out.2.2.size)))))
  clear hown hg hmx hb2 H1
  go_wp2_with (first | ((with_reducible show wpList _ _ _ ((⟨_, Op.buildSlice _ 0 _, _, _, _, _⟩ : Oper) :: _) _ _); refine wpList_build0M (by rfl) rfl ?_) | ((with_reducible show wpList _ _ _ ((⟨some 26, _, _, _, _, _⟩ : Oper) :: _) _ _); refine wpList_append_ms _ (by rfl) (.tmp 24) (.tmp 25) rfl w2.heap.size (.slice (some ⟨w2.heap.size, 0, none⟩) 0 0) 0 [] rfl (empty_own w2) Any b m d l' rfl (H2.out.2.1.on (below_alloc w2 _)) (by omega) (by omega) (by simp) ?_) | fail)
  intro vy w3 hown hg _
  obtain ⟨y, cy, rfl, hmy, hb3⟩ := copied HL.out.2 HMM.out.2 hown hg
  have H3 : Hid (Qua w w3 a b x y n m l l') := Lib.hid ⟨H2.out.1.on hb3, H2.out.2.1.on hb3, H2.out.2.2.1.on hb3, hmy.any, H2.out.2.2.2.trans (hb3.mono H2.out.2.2.2.size)⟩
  clear hown hg hmy hb3 H2 z z' q0 q1
  go_wp2_with fail
  refine (HM.out.all (w := w3) H3.out.a HC.out.1 H3.out.b HC.out.2 HN.out.1 HN.out.2).mono ?_
  rintro e w4 ⟨al, nl, cl, rfl, hml, hb4⟩
  have hnl := len_max HL.out.1 HL.out.2 hml.len
  have HQ : Hid (∀ k : Int, k = (nl : Int) → (k == max (n : Int) (m : Int)) = true) := Lib.hid (fun k hk => by rw [beq_iff_eq, hk, hnl]; omega)
  have hn50 : nl ≤ 100 := by have := HN.out; omega
  have H4 := Lib.hid (And.intro hml hb4)
  clear hml hb4 hnl
  go_wp2_with (first | ((with_reducible show wpList _ _ _ ((⟨_, Op.buildSlice _ 0 _, _, _, _, _⟩ : Oper) :: _) _ _); refine wpList_build0M (by rfl) rfl ?_) | ((with_reducible show wpList _ _ _ ((⟨some 32, _, _, _, _, _⟩ : Oper) :: _) _ _); refine wpList_append_ms _ (by rfl) (.tmp 30) (.tmp 31) rfl w4.heap.size (.slice (some ⟨w4.heap.size, 0, none⟩) 0 0) 0 [] rfl (empty_own w4) Any al nl cl (all l l') rfl (H4.out.1.any.on (below_alloc w4 _)) (by omega) (by omega) (by simp) ?_) | fail)
  intro vg w5 hown hg _
  obtain ⟨ag, cg, rfl, hmg, hb5⟩ := copied H4.out.1.len H4.out.1.mem hown hg
  have H5 := Lib.hid (And.intro (H4.out.1.below hb5) (And.intro hmg (H4.out.2.trans (hb5.mono H4.out.2.size))))
  have s5 := hb5.size
  have HG4 : Hid (∀ g, Value.ownBlock (.slice al nl cl) = some g → g < w4.heap.size) := Lib.hid fun g hg => (H4.out.1.own.lt g hg).2
  clear hown hg hmg hb5 H4
  go_wp2
  by_cases h0 : nl = 0
  · subst h0
    go_loopw [10] (fun i wr => i = .int .i64 0 ∧ wr = w5) (fun i _ => 0)
    case atStart => exact ⟨rfl, rfl⟩
    case round =>
      obtain ⟨rfl, rfl⟩ := hrel
      have HT : Hid (Qua w wr a b x y n m l l' ∧ Mow wr 0 ag 0 cg (all l l')) := Lib.hid ⟨H3.out.on H5.out.2.2, H5.out.2.1.mono (Nat.zero_le _)⟩
      clear H3 H5
      go_wp2_with fail
      refine (rsame_any (w := wr) HT.out.1.a HT.out.1.x (by have := HN.out.1; omega)).mono ?_
      rintro e w7 ⟨rfl, hb7⟩
      have HT7 := Lib.hid (And.intro (HT.out.1.on hb7) (HT.out.2.below hb7))
      rw [decide_eq_true rfl]
      clear hb7 HT
      go_wp2_with fail
      refine (rsame_any (w := w7) HT7.out.1.b HT7.out.1.y (by have := HN.out.2; omega)).mono ?_
      rintro e w8 ⟨rfl, hb8⟩
      have HT8 := Lib.hid (And.intro (HT7.out.1.on hb8) (HT7.out.2.below hb8))
      rw [decide_eq_true rfl]
      clear hb8 HT7
      go_wp2_with fail
      refine (HM.out.all (w := w8) HT8.out.1.a HC.out.1 HT8.out.1.b HC.out.2 HN.out.1 HN.out.2).mono ?_
      rintro e w9 ⟨a9, n9, c9, rfl, hm9, hb9⟩
      have HT9 := Lib.hid (And.intro (HT8.out.1.on hb9) (And.intro (HT8.out.2.below hb9) hm9))
      have HN9 : Hid (n9 ≤ 1000) := Lib.hid (by have := len_max HL.out.1 HL.out.2 hm9.len; have := HN.out; omega)
      clear hm9 hb9 HT8
      go_wp2_with fail
      refine (rsame_any (w := w9) HT9.out.2.2.any HT9.out.2.1.any (by have := HN9.out; omega)).mono ?_
      rintro e w10 ⟨rfl, hb10⟩
      have HB10 := Lib.hid (HT9.out.1.on hb10).below
      rw [decide_eq_true rfl]
      clear hb10 HT9 HN9
      have hq := HQ.out 0 (by simp)
      go_wp2
      go_ret
      exact ⟨rfl, HB10.out⟩
  · obtain ⟨lm, hlm⟩ : ∃ lm, all l l' = lm := ⟨_, rfl⟩
    obtain ⟨g, cap, hv, hBg, hg5⟩ := H5.out.1.own.form (by omega)
    injection hv with e1 e2 e3
    subst e1 e3
    have hcur : ∃ cur : List Value, Whole w5 g 24 cur.toArray ∧ nl * 2 ≤ cur.length := by
      rcases H5.out.1.own.2 with ⟨h', _⟩ | ⟨g', cap', cur, hv, hb, hh, hnc, hcm, hsz, htk⟩
      · simp at h'
      · injection hv with e1 e2 e3
        injection e1 with e1
        injection e1 with e1
        subst e1 e3
        exact ⟨cur.toList, by rw [Array.toArray_toList]; exact hh, by simp only [Array.length_toList]; omega⟩
    have HJ0 : Hid (Bar g w5 w5 ∧ ∃ cur : List Value, Whole w5 g 24 cur.toArray ∧ nl * 2 ≤ cur.length) := Lib.hid ⟨Bar.refl _ _, hcur⟩
    have HG := Lib.hid (And.intro hBg (HG4.out g rfl))
    clear hcur hBg hg5 HG4 hlm
    go_loopw [10] (fun i wr => ∃ j : Nat, j ≤ nl ∧ i = .int .i64 (j : Int) ∧ Hid (Bar g w5 wr ∧ ∃ cur : List Value, Whole wr g 24 cur.toArray ∧ nl * 2 ≤ cur.length)) (fun i _ => nl - (intOf i).toNat)
    case atStart => exact ⟨0, Nat.zero_le _, rfl, HJ0⟩
    case round =>
      clear HJ0
      obtain ⟨j, hj, rfl, HJ⟩ := hrel
      by_cases hlt : j < nl
      · obtain ⟨cur, hcur⟩ := HJ.out.2
        have HCR := Lib.hid hcur
        have q1 : (j : Int) < (nl : Int) := by omega
        clear hcur
        go_wp2_with (first
          | ((with_reducible show wpList _ _ _ ((⟨_, Op.build 24 _, _, _, _, _⟩ : Oper) :: _) _ _); refine wpList_built rfl _ rfl _ rfl (mc (-7, 0)).toList built_7 ?_)
          | ((with_reducible show wpList _ _ _ ((⟨_, Op.store 24 (.tmp 42) _, _, _, _, _⟩ : Oper) :: _) _ _); refine wpList_store_part rfl (n := 24) 24 (.tmp 42) (.tmp 41) rfl g (j * 2) (mc (-7, 0)).toList rfl rfl HCR.out.1 info2 (fun v hv => by simp [mc] at hv; rcases hv with rfl | rfl <;> rfl) (by have := HCR.out.2; simp only [mc, List.length_cons, List.length_nil]; omega) ?_)
          | fail)
        have HV : Hid (Bar g w5 (wr.setRow g (splice cur (j * 2) (mc (-7, 0)).toList).toArray) ∧ ∃ cur' : List Value, Whole (wr.setRow g (splice cur (j * 2) (mc (-7, 0)).toList).toArray) g 24 cur'.toArray ∧ nl * 2 ≤ cur'.length) := Lib.hid ⟨HJ.out.1.row _, _, HCR.out.1.row _, by
          have h2 := HCR.out.2
          rw [length_splice _ _ _ (by simp only [mc, List.length_cons, List.length_nil]; omega)]
          exact h2⟩
        exact ⟨⟨j + 1, by omega, by go_num, HV⟩, by simp [intOf]; omega⟩
      · have q1 : ¬ ((j : Int) < (nl : Int)) := by omega
        have hbb : Below w3.heap.size w3 wr := H5.out.2.2.trans (HJ.out.1.below.mono HG.out.1)
        have HT : Hid (Qua w wr a b x y n m l l' ∧ Mow wr 0 ag nl cg (all l l')) := Lib.hid ⟨H3.out.on hbb, (H5.out.2.1.bar HJ.out.1 HG.out.2).mono (Nat.zero_le _)⟩
        clear hbb HJ H5 H3 HG
        go_wp2_with fail
        refine (rsame_any (w := wr) HT.out.1.a HT.out.1.x (by have := HN.out.1; omega)).mono ?_
        rintro e w7 ⟨rfl, hb7⟩
        have HT7 := Lib.hid (And.intro (HT.out.1.on hb7) (HT.out.2.below hb7))
        rw [decide_eq_true rfl]
        clear hb7 HT
        go_wp2_with fail
        refine (rsame_any (w := w7) HT7.out.1.b HT7.out.1.y (by have := HN.out.2; omega)).mono ?_
        rintro e w8 ⟨rfl, hb8⟩
        have HT8 := Lib.hid (And.intro (HT7.out.1.on hb8) (HT7.out.2.below hb8))
        rw [decide_eq_true rfl]
        clear hb8 HT7
        go_wp2_with fail
        refine (HM.out.all (w := w8) HT8.out.1.a HC.out.1 HT8.out.1.b HC.out.2 HN.out.1 HN.out.2).mono ?_
        rintro e w9 ⟨a9, n9, c9, rfl, hm9, hb9⟩
        have HT9 := Lib.hid (And.intro (HT8.out.1.on hb9) (And.intro (HT8.out.2.below hb9) hm9))
        have HN9 : Hid (n9 ≤ 1000) := Lib.hid (by have := len_max HL.out.1 HL.out.2 hm9.len; have := HN.out; omega)
        clear hm9 hb9 HT8
        go_wp2_with fail
        refine (rsame_any (w := w9) HT9.out.2.2.any HT9.out.2.1.any (by have := HN9.out; omega)).mono ?_
        rintro e w10 ⟨rfl, hb10⟩
        have HB10 := Lib.hid (HT9.out.1.on hb10).below
        rw [decide_eq_true rfl]
        clear hb10 HT9 HN9
        have hq := HQ.out (nl : Int) (by simp)
        go_wp2
        go_ret
        exact ⟨rfl, HB10.out⟩
end Go.Proofs.Ytlcpiompmpccoaa
