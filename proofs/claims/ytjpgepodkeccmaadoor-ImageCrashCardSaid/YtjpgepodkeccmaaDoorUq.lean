/-
  Equality of boots; the walks of nothing (ImageNil) and of numbers of blocks (ImageBlocks).
-/
import Derived.Test.YtjpgepodkeccmaaDoorUp
namespace Go.Proofs.YtjpgepodkeccmaaDoor
open Go.RowKit
set_option linter.unusedVariables false
set_option linter.unusedSimpArgs false
set_option maxRecDepth 20000
deriving instance DecidableEq for Im.Bt
def eqF (d : Nat) (xs ys : Array Value) : List (String × TypeId × Nat) → Sem Bool
  | [] => pure true
  | f :: fs =>
    if f.1 ≠ "_" then do
      let a ← part f.2.1 xs f.2.2
      let b ← part f.2.1 ys f.2.2
      let r ← Op.equalIn d f.2.1 a b
      if (!r) = true then pure false else eqF d xs ys fs
    else eqF d xs ys fs
theorem eqF_is (d : Nat) (xs ys : Array Value) (fs : List Field) : Op.eqFields d xs ys fs = eqF d xs ys (fs.map fun f => (f.name, f.type, f.offset)) := by
  induction fs with
  | nil => rfl
  | cons f fs ih =>
    simp only [Op.eqFields, eqF, List.map_cons]
    rw [ih]
theorem fields_bt : ((Tryd.prog.fieldsOf 41).toList.map fun f => (f.name, f.type, f.offset)) = [("Area", 3, 0), ("Epoch", 2, 1), ("Size", 3, 2), ("Whole", 39, 3)] := by kernel_rfl
theorem und_fb : Tryd.prog.underlying 41 = some (.struct (Tryd.prog.fieldsOf 41)) := by kernel_rfl
theorem part_int {t : TypeId} {k : IntKind} (hu : Tryd.prog.underlying t = some (.int k)) (C : Array Value) (i : Nat) (v : Value) (h : C[i]? = some v) (w : World) : (part t C i).run Tryd.prog w = .ok v w := by
  have ha : (isAgg t).run Tryd.prog w = .ok false w := by
    unfold isAgg
    rw [Sem.run_bind, run_underlying hu w]
    rfl
  unfold part
  rw [Sem.run_bind, ha]
  simp only [Result.andThen_ok, Bool.false_eq_true, if_false, h]
  rfl
theorem part_w {b : Im.Bt} (hb : b.whole.length = 32) (w : World) : (part 39 (bc b).toArray 3).run Tryd.prog w = .ok (.agg (nums b.whole).toArray) w := by
  have ha : (isAgg 39).run Tryd.prog w = .ok true w := by
    unfold isAgg
    rw [Sem.run_bind, run_underlying Sh.und32 w]
    rfl
  have hs : (sizeOf 39).run Tryd.prog w = .ok 32 w := by
    cases hq : Tryd.prog.info? 39 with
    | none => have := Sh.info32; rw [hq] at this; cases this
    | some i =>
      have := Sh.info32
      rw [hq] at this
      simp only [Option.map_some, Option.some.injEq] at this
      simp [sizeOf, typeInfo, hq, this]
  have hl : (nums b.whole).length = 32 := by rw [nums_len, hb]
  unfold part
  rw [Sem.run_bind, ha]
  simp only [Result.andThen_ok, if_true, Sem.run_bind, hs, Sem.run_pure]
  congr 2
  unfold bc
  simp [hl, List.take_of_length_le]
theorem equalB {b d : Im.Bt} (hb : b.whole.length = 32) (hd : d.whole.length = 32) (w : World) : (Op.equalIn 10000 41 (.agg (bc b).toArray) (.agg (bc d).toArray)).run Tryd.prog w = .ok (decide (b = d)) w := by
  rw [run_equalIn_struct w 9999 _ _ _ und_fb (by kernel_rfl), eqF_is, fields_bt]
  have p0 : ∀ (b : Im.Bt) (w : World), (part 3 (bc b).toArray 0).run Tryd.prog w = .ok (.int .i64 b.area) w := fun b w => part_int Tryd.underlying3 _ _ _ rfl w
  have p1 : ∀ (b : Im.Bt) (w : World), (part 2 (bc b).toArray 1).run Tryd.prog w = .ok (.int .i64 b.epoch) w := fun b w => part_int Tryd.underlying2 _ _ _ rfl w
  have p2 : ∀ (b : Im.Bt) (w : World), (part 3 (bc b).toArray 2).run Tryd.prog w = .ok (.int .i64 b.size) w := fun b w => part_int Tryd.underlying3 _ _ _ rfl w
  have i0 := fun (x y : Int) (w : World) => run_equalIn_int (P := Tryd.prog) w 9998 3 .i64 .i64 x y Tryd.underlying3
  have i1 := fun (x y : Int) (w : World) => run_equalIn_int (P := Tryd.prog) w 9998 2 .i64 .i64 x y Tryd.underlying2
  have i3 := Sh.equal32 9998 (fun a b w => run_equalIn_int w 9997 5 .u8 .u8 a b Tryd.underlying5) b.whole d.whole hb hd w
  simp only [eqF, Sem.run_bind, p0, p1, p2, part_w hb, part_w hd, i0, i1, i3, Result.andThen_ok, Sem.run_ite, Sem.run_pure]
  obtain ⟨ba, be, bs, bw⟩ := b
  obtain ⟨da, de, ds, dw⟩ := d
  simp only [Im.Bt.mk.injEq]
  by_cases h0 : ba = da
  · by_cases h1 : be = de
    · by_cases h2 : bs = ds
      · by_cases h3 : bw = dw
        · simp [h0, h1, h2, h3]
        · simp [h0, h1, h2, h3]
      · simp [h0, h1, h2]
    · simp [h0, h1]
  · simp [h0]
theorem eqB {b d : Im.Bt} (hb : b.whole.length = 32) (hd : d.whole.length = 32) (w : World) : (binOp .eql 41 (.agg (bc b).toArray) (.agg (bc d).toArray)).run Tryd.prog w = .ok (.bool (decide (b = d))) w := by
  rw [run_eql_struct w, equalB hb hd w]
  rfl
theorem neB {b d : Im.Bt} (hb : b.whole.length = 32) (hd : d.whole.length = 32) (w : World) : (binOp .neq 41 (.agg (bc b).toArray) (.agg (bc d).toArray)).run Tryd.prog w = .ok (.bool (!decide (b = d))) w := by
  rw [run_neq_struct w, equalB hb hd w]
  rfl
theorem guard_b (op : BinOp) (x y : Operand) (xs ys : Array Value) (w : World) : (eqGuard op 41 x y (.agg xs) (.agg ys)).run Tryd.prog w = .ok () w := run_eqGuard_agg w op _ x y xs ys (by kernel_rfl)
theorem wpList_cmpB {ops : Array Oper} {rest : List Oper} {o : Oper} {a : Act} {w : World} {Q : Exit → Act → World → Prop} (hg : Region.wanted o (yielded ops a.tmps) = true) (op2 : BinOp) (x y : Operand) (ty : TypeId) (ho : o.op = .binOp op2 41 x y ty)
    (C D : Array Value) (hx : a.eval x = .agg C) (hy : a.eval y = .agg D) (r : Bool) (hr : (binOp op2 41 (.agg C) (.agg D)).run Tryd.prog w = .ok (.bool r) w)
    (h : wpList Tryd.prog ops Q rest (a.put o.dst (.bool r)) w) : wpList Tryd.prog ops Q (o :: rest) a w := by
  refine wpList_step fun _ hK => ?_
  rw [if_pos hg]
  unfold Oper.wp execOp
  simp only [ho, hx, hy, Sem.run_bind, guard_b, hr, Result.andThen_ok]
  exact hK _ _ h
set_option maxHeartbeats 4000000 in
theorem blocks_walk (z : Int) (w : World) (hR : Sh.Roots w) (hz : 0 ≤ z ∧ z < 65536) : Calls Tryd.prog 4 #[.int .u16 z] w fun e w' => e = .returned (.bool true) ∧ Below w.heap.size w w' := by
  obtain ⟨n, rfl⟩ := Int.eq_ofNat_of_zero_le hz.1
  obtain ⟨K, hK⟩ : ∃ K, blks (n : Int) = K := ⟨_, rfl⟩
  have hK2 : K = (n + 63) / 64 := by rw [← hK]; unfold blks; omega
  have hn := hz.2
  have HA := Lib.hid (awake_any hR)
  have HI := Lib.hid fun (w : World) => iblocks_any (w := w) (z := (n : Int)) ⟨by omega, by omega⟩
  rw [hK] at HI
  have HJ := Lib.hid fun (w : World) => iblocks_any (w := w) (z := -(n : Int)) ⟨by omega, by omega⟩
  have e0 : blks (-(n : Int)) = 0 := by unfold blks; omega
  rw [e0] at HJ
  clear hR hz hK e0
  have HK2 := Lib.hid hK2
  by_cases h0 : n = 0
  · subst h0
    obtain rfl : K = 0 := by omega
    clear hK2
    go_enter Tryd.func4, Tryd.ntmps4
    go_wp2_with (first | (go_at_call 10; refine HA.out.mono ?_; rintro e w1 ⟨rfl, hb1⟩) | (go_at_call 11; refine (HI.out _).mono ?_; rintro e w' ⟨rfl, rfl⟩) | (go_at_call 11; refine (HJ.out _).mono ?_; rintro e w' ⟨rfl, rfl⟩) | fail)
    go_ret
    exact ⟨rfl, hb1⟩
  · have q1 : (n : Int) ≤ 64 * (K : Int) := by omega
    have q2 : 64 * ((K : Int) - 1) < (n : Int) := by omega
    have q3 : ((K : Int) == 0) = false := by simp; omega
    have q4 : decide ((n : Int) ≤ 64 * (K : Int)) = true := by simp; omega
    have q5 : decide (64 * ((K : Int) - 1) < (n : Int)) = true := by simp; omega
    have q6 : K ≤ 1024 := by omega
    clear hK2
    go_enter Tryd.func4, Tryd.ntmps4
    go_wp2_with (first | (go_at_call 10; refine HA.out.mono ?_; rintro e w1 ⟨rfl, hb1⟩) | (go_at_call 11; refine (HI.out _).mono ?_; rintro e w' ⟨rfl, rfl⟩) | (go_at_call 11; refine (HJ.out _).mono ?_; rintro e w' ⟨rfl, rfl⟩) | fail)
    go_ret
    exact ⟨rfl, hb1⟩
theorem kc_of {b : Im.Bt} (h : Bok b) : KC (bc b).toArray b := ⟨rfl, h.w⟩
set_option maxHeartbeats 8000000 in
theorem nil_walk (z : Int) (b : Im.Bt) (w : World) (hR : Sh.Roots w) (hz : -9223372036854775808 ≤ z ∧ z ≤ 9223372036854775807) (hb : Bok b) : Calls Tryd.prog 7 #[.int .i64 z, .agg (bc b).toArray] w fun e w' => e = .returned (.bool true) ∧ Below w.heap.size w w' := by
  obtain ⟨fsB, hun⟩ := und_bt
  have hzb := zero_bt
  obtain ⟨C, hC⟩ : ∃ C, (bc b).toArray = C := ⟨_, rfl⟩
  have hk := kc_of hb
  rw [hC] at hk ⊢
  have hb0 := below_alloc w (.cells C 41)
  have hw0 : Whole (w.alloc (.cells C 41)) w.heap.size 41 C := Whole.new w _ _
  obtain ⟨w0, h0⟩ : ∃ w0, w.alloc (.cells C 41) = w0 := ⟨_, rfl⟩
  rw [h0] at hb0 hw0
  have HA := Lib.hid (awake_any (hR.below hb0 hR.two))
  have H0 := Lib.hid (And.intro h0 (And.intro hb0 (And.intro hw0 hk)))
  clear hR h0 hb0 hw0 hk hC hz hb
  go_enter Tryd.func7, Tryd.ntmps7
  go_upto_region 1 with fail
  rw [H0.out.1]
  go_wp2_with fail
  refine HA.out.mono ?_
  rintro e w1 ⟨rfl, hb1⟩
  have H1 : Hid (Below w.heap.size w w1 ∧ Whole w1 w.heap.size 41 C) := Lib.hid ⟨H0.out.2.1.trans (hb1.mono H0.out.2.1.size), H0.out.2.2.1.keep (hb1.block _ H0.out.2.2.1.lt)⟩
  clear hb1
  go_wp2_with (first | (go_at_call 16; refine get_nil.mono ?_; rintro e w' ⟨rfl, rfl⟩) | fail)
  refine istart_nil.mono ?_
  rintro e w2 ⟨rfl, hb2⟩
  obtain ⟨w3, h3, k3, b3⟩ := boxedb w2 (D := zbt)
  have hbe3 := hb2.trans (b3.mono hb2.size)
  have H3 : Hid ((w2.alloc (.cells zbt 41)).setRow w2.heap.size zbt = w3 ∧ Below w.heap.size w w3 ∧ Whole w3 w.heap.size 41 C ∧ Whole w3 w2.heap.size 41 zbt) := Lib.hid ⟨h3, H1.out.1.trans (hbe3.mono H1.out.1.size), H1.out.2.keep (hbe3.block _ H1.out.2.lt), k3⟩
  clear hb2 h3 k3 b3 hbe3
  go_wp2_with (first | ((with_reducible show wpList _ _ _ ((⟨_, Op.store 41 _ _, _, _, _, _⟩ : Oper) :: _) _ _); refine wpList_store_row rfl 41 (.tmp 8) (.tmp 22) rfl w2.heap.size zbt rfl rfl 41 zbt (Whole.new w2 _ _) (KC.info zbt_kc) (Eq.trans (b := 35) rfl (KC.size zbt_kc).symm) (KC.all zbt_kc) ?_; rw [H3.out.1]) | (go_at_call 15; refine (put_nil (len := 0) (by omega)).mono ?_; rintro e w' ⟨rfl, rfl⟩) | ((with_reducible show wpList _ _ _ ((⟨_, Op.load 41 _, _, _, _, _⟩ : Oper) :: _) _ _); refine wpList_load_rowG (by rfl) 41 (.tmp 3) rfl w.heap.size rfl 41 C (0, 0) _ H3.out.2.2.1 hun rfl (KC.info H0.out.2.2.2) ?_) | fail)
  refine ipoint_nil.mono ?_
  rintro e w4 ⟨rfl, hb4⟩
  have H4 : Hid (Below w.heap.size w w4 ∧ Whole w4 w.heap.size 41 C ∧ Whole w4 w2.heap.size 41 zbt) := Lib.hid ⟨H3.out.2.1.trans (hb4.mono H3.out.2.1.size), H3.out.2.2.1.keep (hb4.block _ H3.out.2.2.1.lt), H3.out.2.2.2.keep (hb4.block _ H3.out.2.2.2.lt)⟩
  clear hb4
  have heq : ∀ w : World, (binOp .eql 41 (.agg zbt) (.agg zbt)).run Tryd.prog w = .ok (.bool true) w := fun w => by
    have := eqB (b := Im.Z) (d := Im.Z) rfl rfl w
    rw [decide_eq_true rfl] at this
    exact this
  have HEQ := Lib.hid heq
  clear heq
  go_wp2_with (first | ((with_reducible show wpList _ _ _ ((⟨_, Op.load 41 _, _, _, _, _⟩ : Oper) :: _) _ _); refine wpList_load_rowG (by rfl) 41 (.tmp 3) rfl w.heap.size rfl 41 C (0, 0) _ H4.out.2.1 hun rfl (KC.info H0.out.2.2.2) ?_) | ((with_reducible show wpList _ _ _ ((⟨_, Op.load 41 _, _, _, _, _⟩ : Oper) :: _) _ _); refine wpList_load_rowG (by rfl) 41 (.tmp 8) rfl w2.heap.size rfl 41 zbt (0, 0) _ H4.out.2.2 hun rfl (KC.info zbt_kc) ?_) | ((with_reducible show wpList _ _ _ ((⟨_, Op.build 41 _, _, _, _, _⟩ : Oper) :: _) _ _); refine wpList_builtG (by rfl) #[] rfl [] rfl _ built_b0 ?_) | ((with_reducible show wpList _ _ _ ((⟨some 51, _, _, _, _, _⟩ : Oper) :: _) _ _); refine wpList_cmpB (by rfl) .eql (.tmp 49) (.tmp 50) _ rfl zbt zbt rfl rfl true (HEQ.out _) ?_) | fail)
  refine (iwhole_nil H0.out.2.2.2).mono ?_
  rintro e w5 ⟨rfl, hb5⟩
  have H5 := Lib.hid (H4.out.1.trans (hb5.mono H4.out.1.size))
  clear hb5
  go_wp2
  go_ret
  exact ⟨rfl, H5.out⟩
end Go.Proofs.YtjpgepodkeccmaaDoor
