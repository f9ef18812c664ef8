/-
  The walk of the statement ShaTwo.
-/
import Derived.Test.YtndiojiphoomgaaDoorHo
import Derived.Deep.DeepCutAuto
namespace Go.Proofs.YtndiojiphoomgaaDoor
open Go.RowKit
theorem own_form {w : World} {base e size n : Nat} {v : Value} {xs : List Value} (h : w.ownsRow base e size v n xs) : ∃ q cap, v = .slice q n cap := by
  rcases h.2 with ⟨rfl, h0⟩ | ⟨g', cap, _, rfl, _⟩
  · exact ⟨_, _, by rw [h0]⟩
  · exact ⟨_, _, rfl⟩
def item (a b : List Int) (i : Nat) : List Int := (i : Int) :: (if i % 3 = 1 then b else a).drop 1
def items (a b : List Int) (k : Nat) : List (List Int) := (List.range k).map (item a b)
theorem item_ok {a b : List Int} (ha : Dig a) (hb : Dig b) (i : Nat) (hi : i < 256) : Dig (item a b i) := by
  have h : Dig (if i % 3 = 1 then b else a) := by split <;> assumption
  refine ⟨?_, byt_cons (by omega) (by omega) (byt_drop h.2 1)⟩
  unfold item
  rw [List.length_cons, List.length_drop, h.1]
theorem items_len (a b : List Int) (k : Nat) : (items a b k).length = k := by simp [items]
theorem items_ok {a b : List Int} (ha : Dig a) (hb : Dig b) (k : Nat) (hk : k ≤ 256) : ∀ d ∈ items a b k, Dig d := by
  intro d hd
  obtain ⟨i, hi, rfl⟩ := List.mem_map.1 hd
  exact item_ok ha hb i (by have := List.mem_range.1 hi; omega)
theorem items_succ (a b : List Int) (k : Nat) : items a b (k + 1) = items a b k ++ [item a b k] := by simp [items, List.range_succ]
theorem item_set {c : List Int} (hc : Dig c) (i : Nat) : (nums c).toArray.setIfInBounds 0 (.int .u8 (i : Int)) = (nums ((i : Int) :: c.drop 1)).toArray := by
  obtain ⟨h1, _⟩ := hc
  match c, h1 with
  | x :: c, _ => simp [nums]
theorem pw_two (k m : Nat) (h1 : 1 ≤ m) (h2 : m ≤ 2 ^ k) : Sm.pw (2 ^ k + m) = 2 ^ k := by
  have hp := pw_spec (2 ^ k + m) (by have := Nat.two_pow_pos k; omega)
  obtain ⟨j, hj⟩ : ∃ j, Sm.pw (2 ^ k + m) = 2 ^ j := ⟨_, rfl⟩
  rw [hj] at hp ⊢
  have a1 : 2 ^ j < 2 ^ (k + 1) := by rw [Nat.pow_succ]; omega
  have a2 : 2 ^ k < 2 ^ (j + 1) := by rw [Nat.pow_succ]; omega
  have b1 := (Nat.pow_lt_pow_iff_right (by omega : 1 < 2)).1 a1
  have b2 := (Nat.pow_lt_pow_iff_right (by omega : 1 < 2)).1 a2
  rw [show j = k by omega]
theorem flat_len {ds : List (List Int)} (h : ∀ d ∈ ds, Dig d) : (ds.flatMap nums).length = ds.length * 32 := by
  induction ds with
  | nil => rfl
  | cons d ds ih =>
    rw [List.flatMap_cons, List.length_append, nums_len, (h d (by simp)).1, ih (fun x hx => h x (by simp [hx])), List.length_cons]
    omega
theorem flat_get {ds : List (List Int)} (h : ∀ d ∈ ds, Dig d) : ∀ (i j : Nat), i < ds.length → j < 32 → (ds.flatMap nums)[i * 32 + j]? = (nums (ds.getD i []))[j]? := by
  induction ds with
  | nil => intro i j hi; simp at hi
  | cons r ds ih =>
    intro i j hi hj
    have hl := (h r (by simp)).1
    rw [List.flatMap_cons]
    cases i with
    | zero =>
      rw [List.getElem?_append_left (by rw [nums_len]; omega)]
      simp
    | succ i =>
      rw [List.getElem?_append_right (by rw [nums_len]; omega), nums_len, hl, show (i + 1) * 32 + j - 32 = i * 32 + j by omega]
      rw [ih (fun x hx => h x (by simp [hx])) i j (by simpa using hi) hj]
      simp
theorem own_digs {w : World} {base n : Nat} {q : Option Addr} {cap : Nat} {ds : List (List Int)} (h : w.ownsRow base 24 32 (.slice q n cap) n (ds.flatMap nums)) (hd : ∀ d ∈ ds, Dig d) (hn : ds.length = n) : n ≤ cap ∧ Digs w (fun _ => True) q n ds := by
  by_cases h0 : n = 0
  · refine ⟨by omega, hn, hd, Or.inl (List.eq_nil_of_length_eq_zero (by omega))⟩
  · obtain ⟨g, cap', hv, hb, hlt⟩ := h.form (by omega)
    have hcap : n ≤ cap := by
      rcases h.2 with ⟨h', _⟩ | ⟨g', cap', cur, h', _, _, hnc, _⟩
      · simp at h'; omega
      · simp only [Value.slice.injEq] at h'
        omega
    injection hv with e1 _ _
    subst e1
    refine ⟨hcap, hn, hd, Or.inr ⟨g, 0, rfl, trivial, hlt, fun k hk j v hv => ?_⟩⟩
    have hj : j < 32 := by
      have := (List.getElem?_eq_some_iff.1 hv).1
      have hm : ds.getD k [] ∈ ds := by
        have hkl : k < ds.length := by omega
        have : ds.getD k [] = ds[k] := by simp [hkl]
        rw [this]; exact List.getElem_mem hkl
      rw [nums_len, (hd _ hm).1] at this; exact this
    rw [show 0 + k * 32 + j = k * 32 + j by omega, h.cellAt _ (by omega), flat_get hd k j (by omega) hj]
    exact hv
theorem dig_info : (Tryd.prog.info? 24).map (fun i => (i.zero, i.size, i.bytes)) = some (some (.agg #[Value.int IntKind.u8 0, Value.int IntKind.u8 0, Value.int IntKind.u8 0, Value.int IntKind.u8 0, Value.int IntKind.u8 0, Value.int IntKind.u8 0, Value.int IntKind.u8 0, Value.int IntKind.u8 0, Value.int IntKind.u8 0, Value.int IntKind.u8 0, Value.int IntKind.u8 0, Value.int IntKind.u8 0, Value.int IntKind.u8 0, Value.int IntKind.u8 0, Value.int IntKind.u8 0, Value.int IntKind.u8 0, Value.int IntKind.u8 0, Value.int IntKind.u8 0, Value.int IntKind.u8 0, Value.int IntKind.u8 0, Value.int IntKind.u8 0, Value.int IntKind.u8 0, Value.int IntKind.u8 0, Value.int IntKind.u8 0, Value.int IntKind.u8 0, Value.int IntKind.u8 0, Value.int IntKind.u8 0, Value.int IntKind.u8 0, Value.int IntKind.u8 0, Value.int IntKind.u8 0, Value.int IntKind.u8 0, Value.int IntKind.u8 0]), 32, 32) := by kernel_rfl
theorem wpList_append_dig {w : World} {ops : Array Oper} {rest : List Oper} {o : Oper} {a : Act} {Q : Exit → Act → World → Prop} (hgd : o.guard = none) (s x : Operand)
    (ho : o.op = .call { callee := .builtin .append, args := #[s, x], argTypes := #[29, 29] })
    (base : Nat) (v : Value) (n : Nat) (ds : List (List Int)) (hs : a.eval s = v) (hown : w.ownsRow base 24 32 v n (ds.flatMap nums))
    (g : Nat) (T : TypeId) (d : List Int) (hx : a.eval x = .slice (some ⟨g, 0, none⟩) 1 1) (hd : Dig d) (hg : Whole w g T (nums d).toArray)
    (hn : n ≤ 100000) (hbase : base ≤ w.heap.size)
    (h : ∀ v' w', w'.ownsRow base 24 32 v' (n + 1) ((ds ++ [d]).flatMap nums) → w.grownBy w' v.ownBlock → wpList Tryd.prog ops Q rest (a.put o.dst v') w') : wpList Tryd.prog ops Q (o :: rest) a w := by
  obtain ⟨i0, hi0, hz0, hz1, hz2⟩ := info_parts dig_info
  refine wpList_plain hgd fun _ hK => ?_
  obtain ⟨v', w', hrun, h2, h3, _, h5⟩ := run_append_own_at (P := Tryd.prog) w base 29 o.type 24 i0 (.agg #[Value.int IntKind.u8 0, Value.int IntKind.u8 0, Value.int IntKind.u8 0, Value.int IntKind.u8 0, Value.int IntKind.u8 0, Value.int IntKind.u8 0, Value.int IntKind.u8 0, Value.int IntKind.u8 0, Value.int IntKind.u8 0, Value.int IntKind.u8 0, Value.int IntKind.u8 0, Value.int IntKind.u8 0, Value.int IntKind.u8 0, Value.int IntKind.u8 0, Value.int IntKind.u8 0, Value.int IntKind.u8 0, Value.int IntKind.u8 0, Value.int IntKind.u8 0, Value.int IntKind.u8 0, Value.int IntKind.u8 0, Value.int IntKind.u8 0, Value.int IntKind.u8 0, Value.int IntKind.u8 0, Value.int IntKind.u8 0, Value.int IntKind.u8 0, Value.int IntKind.u8 0, Value.int IntKind.u8 0, Value.int IntKind.u8 0, Value.int IntKind.u8 0, Value.int IntKind.u8 0, Value.int IntKind.u8 0, Value.int IntKind.u8 0]) 32 32 Tryd.underlying29 hi0 hz0 hz1 hz2 rfl (by omega) v n (ds.flatMap nums) hown ⟨g, 0, none⟩ 1 1 (nums d) (by rw [nums_len, hd.1]) (fun j u hu => by rw [Addr.add_lit, Nat.zero_add, hg.cell, List.getElem?_toArray]; exact hu) (nums_one d) (by unfold maxLen; omega) (by omega) hbase
  unfold Oper.wp execOp
  simp only [ho, resolve, invoke, builtin, Sem.run_bind, Sem.run_pure, Result.andThen_ok, List.map_toArray, List.map_cons, List.map_nil, hs, hx, hrun]
  exact hK _ _ (h v' w' (by rw [List.flatMap_append]; simpa using h2) h3)
theorem wpList_build_dig {ops : Array Oper} {rest : List Oper} {o : Oper} {a : Act} {w : World} {Q : Exit → Act → World → Prop} (hgd : o.guard = none) (x : Operand) (ho : o.op = .buildSlice 29 1 #[(0, x)]) (C : Array Value) (hx : a.eval x = .agg C) (hC : C.size = 32)
    (h : wpList Tryd.prog ops Q rest (a.put o.dst (.slice (some ⟨w.heap.size, 0, none⟩) 1 1)) (w.alloc (.cells C 24))) : wpList Tryd.prog ops Q (o :: rest) a w :=
  wpList_plain hgd fun _ hK => wp_build_dig x ho C hx hC (hK _ _ h)
set_option linter.unusedSimpArgs false in
set_option maxHeartbeats 4000000 in
theorem two_walk (a b : List Int) (p r : Int) (w : World) (hR : Roots w) (ha : Dig a) (hb : Dig b) (hp : (Lit.int .u8 p).wf = true) (hr : (Lit.int .u8 r).wf = true) :
    Calls Tryd.prog 7 #[.agg (nums a).toArray, .agg (nums b).toArray, .int .u8 p, .int .u8 r] w fun e w' => e = .returned (.bool true) ∧ Below w.heap.size w w' := by
  have hp' := u8_in hp
  have hr' := u8_in hr
  have HR := Lib.hid hR
  have HA := Lib.hid ha
  have HB := Lib.hid hb
  have hB2 := hR.two
  clear hR ha hb hp hr
  obtain ⟨p0, p1⟩ := hp'
  obtain ⟨r0, r1⟩ := hr'
  obtain ⟨k, hk5, n, hkn, hsh⟩ : ∃ k : Nat, k ≤ 5 ∧ ∃ n : Nat, n = 2 ^ k ∧ wrap64 (2 ^ (p % 6).toNat) = (n : Int) := by
    refine ⟨(p % 6).toNat, by omega, 2 ^ (p % 6).toNat, rfl, ?_⟩
    have h : ∀ j : Fin 6, wrap64 ((2 : Int) ^ j.val) = ((2 ^ j.val : Nat) : Int) := by decide +kernel
    exact h ⟨(p % 6).toNat, by omega⟩
  have hn : 1 ≤ n ∧ n ≤ 32 := by
    have h : ∀ j : Fin 6, 1 ≤ 2 ^ j.val ∧ 2 ^ j.val ≤ 32 := by decide
    rw [hkn]; exact h ⟨k, by omega⟩
  obtain ⟨hn1, hn2⟩ := hn
  obtain ⟨m, hm⟩ : ∃ m : Nat, 1 + r % (n : Int) = (m : Int) := ⟨(1 + r % (n : Int)).toNat, by have := Int.emod_nonneg r (show (n : Int) ≠ 0 by omega); omega⟩
  have hm1 : 1 ≤ m ∧ m ≤ n := by
    have h1 := Int.emod_nonneg r (show (n : Int) ≠ 0 by omega)
    have h2 := Int.emod_lt_of_pos r (show (0 : Int) < (n : Int) by omega)
    omega
  obtain ⟨hm1, hm2⟩ := hm1
  have q6 : p % 6 < 64 := by omega
  have q7 : 0 ≤ p % 6 := by omega
  have HKN := Lib.hid hkn
  clear hkn
  have hmw : wrap64 (1 + r % (n : Int)) = (m : Int) := by rw [hm]; unfold wrap64; omega
  go_enter Tryd.func7, Tryd.ntmps7
  go_upto_region 4 with (go_at_call 9; refine (awake_any _ ((HR.out.alloc _).alloc _)).mono ?_; rintro e w1 ⟨rfl, hb⟩)
  rw [hsh]
  have k0 := (Whole.new w 24 (nums a).toArray).alloc (.cells (nums b).toArray 24)
  have k1 := Whole.new (w.alloc (.cells (nums a).toArray 24)) 24 (nums b).toArray
  have b0 : Below w.heap.size w ((w.alloc (.cells (nums a).toArray 24)).alloc (.cells (nums b).toArray 24)) := (below_alloc w _).alloc (by simp) _
  rw [size_alloc] at k1
  generalize (w.alloc (.cells (nums a).toArray 24)).alloc (.cells (nums b).toArray 24) = w0 at *
  generalize hBe : w.heap.size = B at *
  have HBE := Lib.hid hBe
  have H1 := Lib.hid (And.intro (k0.below hb k0.lt) (And.intro (k1.below hb k1.lt) (b0.trans (hb.mono (by have := k0.lt; omega)))))
  have z1 : B + 1 < w1.heap.size := Nat.lt_of_lt_of_le k1.lt hb.size
  clear k0 k1 b0 hb hBe hsh hmw hm q6 q7
  obtain ⟨C, hC⟩ : ∃ C, w1.heap.size = C := ⟨_, rfl⟩
  rw [hC] at z1
  have HCC := Lib.hid hC
  clear hC
  go_wp2
  go_loopw [12, 13] (fun v12 v13 wr => ∃ i : Nat, i ≤ n + m ∧ v13 = .int .i64 i ∧ ∃ q cap, v12 = .slice q i cap ∧ Hid (Below C w1 wr ∧ wr.ownsRow C 24 32 (.slice q i cap) i ((items a b i).flatMap nums))) (fun _ v13 _ => n + m - (intOf v13).toNat)
  case atStart => exact ⟨0, Nat.zero_le _, rfl, none, 0, rfl, Lib.hid ⟨by rw [← HCC.out]; exact Below.refl _ _, World.ownsRow_nil _ _ _ _⟩⟩
  case round =>
    obtain ⟨i, hi, rfl, q, cap, rfl, HH⟩ := hrel
    have sC : C ≤ wr.heap.size := by have := HH.out.1.size; rw [HCC.out] at this; exact this
    have HKA := Lib.hid (H1.out.1.below HH.out.1 (by omega))
    have HKB := Lib.hid (H1.out.2.1.below HH.out.1 (by omega))
    by_cases hlt : i < n + m
    · have d1 : decide ((i : Int) < (n : Int) + (m : Int)) = true := by simp; omega
      have hNa := all_nums a
      have hNb := all_nums b
      have HNA := Lib.hid (row_size HA.out)
      have HNB := Lib.hid (row_size HB.out)
      have HZ : Hid (#[Value.int IntKind.u8 0, Value.int IntKind.u8 0, Value.int IntKind.u8 0, Value.int IntKind.u8 0, Value.int IntKind.u8 0, Value.int IntKind.u8 0, Value.int IntKind.u8 0, Value.int IntKind.u8 0, Value.int IntKind.u8 0, Value.int IntKind.u8 0, Value.int IntKind.u8 0, Value.int IntKind.u8 0, Value.int IntKind.u8 0, Value.int IntKind.u8 0, Value.int IntKind.u8 0, Value.int IntKind.u8 0, Value.int IntKind.u8 0, Value.int IntKind.u8 0, Value.int IntKind.u8 0, Value.int IntKind.u8 0, Value.int IntKind.u8 0, Value.int IntKind.u8 0, Value.int IntKind.u8 0, Value.int IntKind.u8 0, Value.int IntKind.u8 0, Value.int IntKind.u8 0, Value.int IntKind.u8 0, Value.int IntKind.u8 0, Value.int IntKind.u8 0, Value.int IntKind.u8 0, Value.int IntKind.u8 0, Value.int IntKind.u8 0].size = 32) := Lib.hid rfl
      go_upto_region 9 with (first
        | ((with_reducible show wpList _ _ _ ((⟨some 34, Op.load 24 _, _, _, _, _⟩ : Oper) :: _) _ _); refine wpList_load_row rfl _ (.tmp 4) rfl B rfl 24 _ (0, 0) _ HKA.out und32 rfl (by rw [HNA.out]; exact info32) ?_)
        | ((with_reducible show wpList _ _ _ ((⟨none, Op.store 24 _ _, _, _, _, _⟩ : Oper) :: _) _ _); refine wpList_store_row rfl _ (.tmp 14) (.tmp 34) rfl wr.heap.size _ rfl rfl 24 _ (Whole.new _ _ _) (by rw [HNA.out]; exact info32) (by rw [HNA.out]; rfl) hNa ?_))
      rw [zero32z]
      have y2 : Whole ((wr.alloc (.cells (nums (zs 32)).toArray 24)).setRow wr.heap.size (nums a).toArray) wr.heap.size 24 (nums a).toArray := put_row
      have yb : Whole ((wr.alloc (.cells (nums (zs 32)).toArray 24)).setRow wr.heap.size (nums a).toArray) (B + 1) 24 (nums b).toArray := put_far HKB.out
      have b2 : Below C w1 ((wr.alloc (.cells (nums (zs 32)).toArray 24)).setRow wr.heap.size (nums a).toArray) := put_below HH.out.1 sC
      have on : (Value.slice q i cap).ownBlock ≠ some wr.heap.size := fun e => by have := (HH.out.2.lt _ e).2; omega
      have o2 : ((wr.alloc (.cells (nums (zs 32)).toArray 24)).setRow wr.heap.size (nums a).toArray).ownsRow C 24 32 (.slice q i cap) i ((items a b i).flatMap nums) := (HH.out.2.alloc _).kept (row := some wr.heap.size) (grown_row _ _ _) (Or.inr on)
      generalize (wr.alloc (.cells (nums (zs 32)).toArray 24)).setRow wr.heap.size (nums a).toArray = w2 at *
      generalize wr.heap.size = X at *
      have H2 := Lib.hid (And.intro y2 (And.intro b2 (And.intro o2 on)))
      have HYB := Lib.hid yb
      have HXB : Hid (B + 1 ≠ X) := Lib.hid (by omega)
      clear y2 b2 o2 on yb HH HKA HKB
      by_cases h3 : i % 3 = 1
      · have e3 : ((i : Int) % 3 == 1) = true := by rw [beq_iff_eq]; omega
        go_upto_region 11 with (first
          | ((with_reducible show wpList _ _ _ ((⟨some 38, Op.load 24 _, _, _, _, _⟩ : Oper) :: _) _ _); refine wpList_load_row rfl _ (.tmp 5) rfl (B + 1) rfl 24 _ (0, 0) _ HYB.out und32 rfl (by rw [HNB.out]; exact info32) ?_)
          | ((with_reducible show wpList _ _ _ ((⟨none, Op.store 24 _ _, _, _, _, _⟩ : Oper) :: _) _ _); refine wpList_store_row rfl _ (.tmp 14) (.tmp 38) rfl X _ rfl rfl 24 _ H2.out.1 (by rw [HNB.out]; exact info32) (by rw [HNA.out, HNB.out]) hNb ?_))
        have HX := Lib.hid (And.intro (H2.out.1.row (nums b).toArray) (And.intro (below_row H2.out.2.1 sC (nums b).toArray) (And.intro (H2.out.2.2.1.kept (row := some X) (grown_row w2 X (nums b).toArray) (Or.inr H2.out.2.2.2)) H2.out.2.2.2)))
        generalize w2.setRow X (nums b).toArray = w3 at *
        clear H2 HYB
        have x3 : w3.cell? ⟨X, 0, none⟩ = some (.int .u8 (b.getD 0 0)) := (HX.out.1.cell 0).trans (by rw [List.getElem?_toArray, nums_get _ _ (by rw [HB.out.1]; omega)])
        have f3 : w3.frozen? ⟨X, 0, none⟩ = false := HX.out.1.frozen 0
        have HIT : Hid (item a b i = (i : Int) :: b.drop 1) := Lib.hid (by unfold item; rw [if_pos h3])
        have HD : Hid (Dig (item a b i)) := Lib.hid (item_ok HA.out HB.out i (by omega))
        have hx4 : Whole (w3.setCell ⟨X, 0, none⟩ (.int .u8 (i : Int))) X 24 (nums (item a b i)).toArray := by
          have := HX.out.1.set 0 (.int .u8 (i : Int))
          rw [item_set HB.out i] at this
          rw [HIT.out]; exact this
        have hb4 := HX.out.2.1.setCell (p := ⟨X, 0, none⟩) sC (.int .u8 (i : Int))
        have ho4 : (w3.setCell ⟨X, 0, none⟩ (.int .u8 (i : Int))).ownsRow C 24 32 (.slice q i cap) i ((items a b i).flatMap nums) := HX.out.2.2.1.kept (row := some X) ⟨rfl, rfl, rfl, by simp [World.setCell], fun k _ hk => Below.heap_setCell w3 ⟨X, 0, none⟩ _ k (fun e => hk (by rw [e]))⟩ (Or.inr HX.out.2.2.2)
        have HX4 := Lib.hid (And.intro hx4 (And.intro hb4 ho4))
        clear hx4 hb4 ho4
        with_reducible generalize b.getD 0 0 = old at *
        go_upto_region 12 with (fail)
        generalize w3.setCell ⟨X, 0, none⟩ (.int .u8 (i : Int)) = w4 at *
        clear x3 f3
        have HNI := Lib.hid (row_size HD.out)
        have s4 : C ≤ w4.heap.size := by have := HX4.out.2.1.size; rw [HCC.out] at this; exact this
        go_wp2_with (first
          | ((with_reducible show wpList _ _ _ ((⟨some 43, Op.load 24 _, _, _, _, _⟩ : Oper) :: _) _ _); refine wpList_load_row rfl _ (.tmp 14) rfl X rfl 24 _ (0, 0) _ HX4.out.1 und32 rfl (by rw [HNI.out]; exact info32) ?_)
          | ((with_reducible show wpList _ _ _ ((⟨some 44, Op.buildSlice 29 _ _, _, _, _, _⟩ : Oper) :: _) _ _); refine wpList_build_dig rfl (.tmp 43) rfl _ rfl HNI.out ?_)
          | (at_builtin; refine wpList_append_dig rfl (.tmp 42) (.tmp 44) rfl C _ i (items a b i) rfl (HX4.out.2.2.alloc _) w4.heap.size 24 (item a b i) rfl HD.out (Whole.new _ _ _) (by omega) (by rw [size_alloc]; omega) ?_))
        intro v5 w5 hown hg
        have HO5 : Hid (w5.ownsRow C 24 32 v5 (i + 1) ((items a b (i + 1)).flatMap nums)) := Lib.hid (by rw [items_succ, List.flatMap_append]; simpa using hown)
        have HB5 : Hid (Below C w1 w5) := Lib.hid ((HX4.out.2.1.alloc s4 _).grown hg (by rw [size_alloc]; omega) (fun k hk => (HX4.out.2.2.lt k hk).1))
        clear hown hg
        obtain ⟨q5, cap5, rfl⟩ := own_form HO5.out
        go_wp2
        go_roundw
        case rel => exact ⟨i + 1, by omega, by go_num, q5, cap5, rfl, Lib.hid ⟨HB5.out, HO5.out⟩⟩
        case measure => simp [intOf]; omega
      · have e3 : ((i : Int) % 3 == 1) = false := by rw [beq_eq_false_iff_ne]; omega
        go_upto_region 11 with (fail)
        have HX := H2
        clear H2 HYB
        generalize w2 = w3 at *
        have x3 : w3.cell? ⟨X, 0, none⟩ = some (.int .u8 (a.getD 0 0)) := (HX.out.1.cell 0).trans (by rw [List.getElem?_toArray, nums_get _ _ (by rw [HA.out.1]; omega)])
        have f3 : w3.frozen? ⟨X, 0, none⟩ = false := HX.out.1.frozen 0
        have HIT : Hid (item a b i = (i : Int) :: a.drop 1) := Lib.hid (by unfold item; rw [if_neg h3])
        have HD : Hid (Dig (item a b i)) := Lib.hid (item_ok HA.out HB.out i (by omega))
        have hx4 : Whole (w3.setCell ⟨X, 0, none⟩ (.int .u8 (i : Int))) X 24 (nums (item a b i)).toArray := by
          have := HX.out.1.set 0 (.int .u8 (i : Int))
          rw [item_set HA.out i] at this
          rw [HIT.out]; exact this
        have hb4 := HX.out.2.1.setCell (p := ⟨X, 0, none⟩) sC (.int .u8 (i : Int))
        have ho4 : (w3.setCell ⟨X, 0, none⟩ (.int .u8 (i : Int))).ownsRow C 24 32 (.slice q i cap) i ((items a b i).flatMap nums) := HX.out.2.2.1.kept (row := some X) ⟨rfl, rfl, rfl, by simp [World.setCell], fun k _ hk => Below.heap_setCell w3 ⟨X, 0, none⟩ _ k (fun e => hk (by rw [e]))⟩ (Or.inr HX.out.2.2.2)
        have HX4 := Lib.hid (And.intro hx4 (And.intro hb4 ho4))
        clear hx4 hb4 ho4
        with_reducible generalize a.getD 0 0 = old at *
        go_upto_region 12 with (fail)
        generalize w3.setCell ⟨X, 0, none⟩ (.int .u8 (i : Int)) = w4 at *
        clear x3 f3
        have HNI := Lib.hid (row_size HD.out)
        have s4 : C ≤ w4.heap.size := by have := HX4.out.2.1.size; rw [HCC.out] at this; exact this
        go_wp2_with (first
          | ((with_reducible show wpList _ _ _ ((⟨some 43, Op.load 24 _, _, _, _, _⟩ : Oper) :: _) _ _); refine wpList_load_row rfl _ (.tmp 14) rfl X rfl 24 _ (0, 0) _ HX4.out.1 und32 rfl (by rw [HNI.out]; exact info32) ?_)
          | ((with_reducible show wpList _ _ _ ((⟨some 44, Op.buildSlice 29 _ _, _, _, _, _⟩ : Oper) :: _) _ _); refine wpList_build_dig rfl (.tmp 43) rfl _ rfl HNI.out ?_)
          | (at_builtin; refine wpList_append_dig rfl (.tmp 42) (.tmp 44) rfl C _ i (items a b i) rfl (HX4.out.2.2.alloc _) w4.heap.size 24 (item a b i) rfl HD.out (Whole.new _ _ _) (by omega) (by rw [size_alloc]; omega) ?_))
        intro v5 w5 hown hg
        have HO5 : Hid (w5.ownsRow C 24 32 v5 (i + 1) ((items a b (i + 1)).flatMap nums)) := Lib.hid (by rw [items_succ, List.flatMap_append]; simpa using hown)
        have HB5 : Hid (Below C w1 w5) := Lib.hid ((HX4.out.2.1.alloc s4 _).grown hg (by rw [size_alloc]; omega) (fun k hk => (HX4.out.2.2.lt k hk).1))
        clear hown hg
        obtain ⟨q5, cap5, rfl⟩ := own_form HO5.out
        go_wp2
        go_roundw
        case rel => exact ⟨i + 1, by omega, by go_num, q5, cap5, rfl, Lib.hid ⟨HB5.out, HO5.out⟩⟩
        case measure => simp [intOf]; omega
    · have d1 : decide ((i : Int) < (n : Int) + (m : Int)) = false := by simp; omega
      have hii : i = n + m := by omega
      have hown := HH.out.2
      have hok := items_ok HA.out HB.out i (by omega)
      obtain ⟨hcap, hdg⟩ := own_digs hown hok (items_len a b i)
      obtain ⟨l, hl⟩ : ∃ l, items a b i = l := ⟨_, rfl⟩
      rw [hl] at hdg hok
      have hll : l.length = i := by rw [← hl]; exact items_len a b i
      have hpw : Sm.pw (n + m) = n := by rw [HKN.out]; exact pw_two k m hm1 (by rw [← HKN.out]; exact hm2)
      have htr := tree_more l (by omega)
      rw [hll, hii, hpw] at htr
      have HTR := Lib.hid htr
      have HDT := Lib.hid (And.intro (tree_ok (l.take n) (fun d hd => hok d (List.mem_of_mem_take hd))) (And.intro (tree_ok (l.drop n) (fun d hd => hok d (List.mem_of_mem_drop hd))) (tree_ok l hok)))
      have HDG := Lib.hid hdg.old
      have HBL : Hid (Below B w wr) := Lib.hid (H1.out.2.2.trans (HH.out.1.mono (by omega)))
      have HII := Lib.hid hii
      have hsh : ∀ w, (Instr.slice 29 (.slice q i cap) none (some (.int .i64 (n : Int))) none).run Tryd.prog w = .ok (.slice q n cap) w := slice_hi (by omega) (by omega)
      obtain ⟨A2, hsl, HDD⟩ : ∃ A, (∀ w, (Instr.slice 29 (.slice q i cap) (some (.int .i64 (n : Int))) none none).run Tryd.prog w = .ok (.slice A (i - n) (cap - n)) w) ∧ Hid (Digs wr (fun b => b < wr.heap.size) A (i - n) (l.drop n)) := ⟨_, slice_lo (by omega), Lib.hid (hdg.old.drop n cap (by omega) hcap)⟩
      have HDT1 := Lib.hid (hdg.old.take n (by omega))
      clear hown hok hdg hl hll hpw htr hii HH HKA HKB
      obtain ⟨x, hx⟩ : ∃ x, Sm.tree (l.take n) = x := ⟨_, rfl⟩
      obtain ⟨y, hy⟩ : ∃ y, Sm.tree (l.drop n) = y := ⟨_, rfl⟩
      rw [hx, hy] at HTR HDT
      have HXE := Lib.hid hx
      have HYE := Lib.hid hy
      clear hx hy
      have sB : B < wr.heap.size := by omega
      go_wp2_with fail
      refine (tree_walk n HDT1.out (HR.out.below HBL.out (by omega)) (by omega) (by omega)).mono ?_
      rintro e w2 ⟨rfl, hb2⟩
      rw [HXE.out]
      have HB2 : Hid (Below B w w2) := Lib.hid (HBL.out.trans (hb2.mono (by omega)))
      have HW2 : Hid (Below wr.heap.size wr w2) := Lib.hid hb2
      clear hb2
      have s2 : B < w2.heap.size := Nat.lt_of_lt_of_le sB HW2.out.size
      have hNx := all_nums x
      have HNX := Lib.hid (row_size HDT.out.1)
      have hNy := all_nums y
      have HNY := Lib.hid (row_size HDT.out.2.1)
      go_upto_region 14 with ((with_reducible show wpList _ _ _ ((⟨none, Op.store 24 _ _, _, _, _, _⟩ : Oper) :: _) _ _); refine wpList_store_row rfl _ (.tmp 15) (.tmp 49) rfl w2.heap.size _ rfl rfl 24 _ (Whole.new _ _ _) (by rw [HNX.out]; exact info32) (by rw [HNX.out]; rfl) hNx ?_)
      rw [zero32z]
      have k3 : Whole ((w2.alloc (.cells (nums (zs 32)).toArray 24)).setRow w2.heap.size (nums x).toArray) w2.heap.size 24 (nums x).toArray := put_row
      have b3 : Below B w ((w2.alloc (.cells (nums (zs 32)).toArray 24)).setRow w2.heap.size (nums x).toArray) := put_below HB2.out (by omega)
      have v3 : Below wr.heap.size wr ((w2.alloc (.cells (nums (zs 32)).toArray 24)).setRow w2.heap.size (nums x).toArray) := put_below HW2.out HW2.out.size
      generalize (w2.alloc (.cells (nums (zs 32)).toArray 24)).setRow w2.heap.size (nums x).toArray = w3 at *
      generalize w2.heap.size = P at *
      have H3 := Lib.hid (And.intro k3 (And.intro b3 v3))
      clear k3 b3 v3 HB2 HW2
      go_wp2_with fail
      refine (tree_walk (i - n) (HDD.out.below H3.out.2.2 (fun b _ h => h)) (HR.out.below H3.out.2.1 (by omega)) (by omega) (by omega)).mono ?_
      rintro e w4 ⟨rfl, hb4⟩
      rw [HYE.out]
      have H4 := Lib.hid (And.intro (H3.out.1.below hb4 H3.out.1.lt) (And.intro (H3.out.2.1.trans (hb4.mono (by have := H3.out.1.lt; omega))) (H3.out.2.2.trans (hb4.mono H3.out.2.2.size))))
      have s4 : P < w4.heap.size := H4.out.1.lt
      clear hb4 H3
      go_upto_region 15 with ((with_reducible show wpList _ _ _ ((⟨none, Op.store 24 _ _, _, _, _, _⟩ : Oper) :: _) _ _); refine wpList_store_row rfl _ (.tmp 16) (.tmp 53) rfl w4.heap.size _ rfl rfl 24 _ (Whole.new _ _ _) (by rw [HNY.out]; exact info32) (by rw [HNY.out]; rfl) hNy ?_)
      rw [zero32z]
      have k5 : Whole ((w4.alloc (.cells (nums (zs 32)).toArray 24)).setRow w4.heap.size (nums y).toArray) w4.heap.size 24 (nums y).toArray := put_row
      have p5 : Whole ((w4.alloc (.cells (nums (zs 32)).toArray 24)).setRow w4.heap.size (nums y).toArray) P 24 (nums x).toArray := put_far H4.out.1
      have b5 : Below B w ((w4.alloc (.cells (nums (zs 32)).toArray 24)).setRow w4.heap.size (nums y).toArray) := put_below H4.out.2.1 (by omega)
      have v5 : Below wr.heap.size wr ((w4.alloc (.cells (nums (zs 32)).toArray 24)).setRow w4.heap.size (nums y).toArray) := put_below H4.out.2.2 H4.out.2.2.size
      generalize (w4.alloc (.cells (nums (zs 32)).toArray 24)).setRow w4.heap.size (nums y).toArray = w5 at *
      generalize w4.heap.size = Q at *
      have HV0 : Hid (Whole w5.drew P 24 (nums x).toArray ∧ Whole w5.drew Q 24 (nums y).toArray ∧ Below B w w5.drew ∧ Below wr.heap.size wr w5.drew) := Lib.hid ⟨p5, k5, b5.drew, v5.drew⟩
      clear k5 p5 b5 v5 H4
      have hq : ∀ w : World, (Op.equalIn 10000 24 (.agg (nums (Sm.tree l)).toArray) (.agg (nums (Sm.tree l)).toArray)).run Tryd.prog w = .ok true w := fun w => by
        have h := equal32 9999 (fun a b w => run_equalIn_int w 9998 5 .u8 .u8 a b Tryd.underlying5) (Sm.tree l) (Sm.tree l) HDT.out.2.2.1 HDT.out.2.2.1 w
        rw [h, decide_eq_true rfl]
      obtain ⟨res, hres⟩ : ∃ res, Sm.tree l = res := ⟨_, rfl⟩
      rw [hres] at HTR HDT hq
      have HRS := Lib.hid hres
      clear hres
      refine wp_region_held_drew (S := fun _ => True) (by kernel_rfl) trivial (fun hHeld => ?_)
      generalize w5.drew = v0 at *
      refine wpAnyH_take (i := 0) (v := .bool true) rfl (by kernel_rfl) (by kernel_rfl) (by kernel_rfl) (fun _ _ _ h => h) (Or.inl ⟨by rfl, (by intro w hSw; (try dsimp only at hSw); go_simp)⟩) (by assumption) ?_
      try simp only [Act.put, List.getElem_toArray, List.getElem_cons_zero, List.getElem_cons_succ, List.setIfInBounds_toArray, List.set_cons_zero, List.set_cons_succ]
      refine wpAnyH_take (i := 1) (v := .bool true) rfl (by kernel_rfl) (by kernel_rfl) (by kernel_rfl) (fun _ _ _ h => h) (Or.inl ⟨by rfl, (by intro w hSw; (try dsimp only at hSw); go_simp)⟩) (by assumption) ?_
      try simp only [Act.put, List.getElem_toArray, List.getElem_cons_zero, List.getElem_cons_succ, List.setIfInBounds_toArray, List.set_cons_zero, List.set_cons_succ]
      refine wpAnyH_take (i := 2) (v := .slice q i cap) rfl (by kernel_rfl) (by kernel_rfl) (by kernel_rfl) (fun _ _ _ h => h) (Or.inl ⟨by rfl, (by intro w hSw; (try dsimp only at hSw); go_simp)⟩) (by assumption) ?_
      try simp only [Act.put, List.getElem_toArray, List.getElem_cons_zero, List.getElem_cons_succ, List.setIfInBounds_toArray, List.set_cons_zero, List.set_cons_succ]
      refine wpAnyH_take (i := 5) (v := .slice (some ⟨P, 0, none⟩) 32 32) rfl (by kernel_rfl) (by kernel_rfl) (by kernel_rfl) (fun _ _ _ h => h) (Or.inl ⟨by rfl, (by intro w hSw; (try dsimp only at hSw); go_simp)⟩) (by assumption) ?_
      try simp only [Act.put, List.getElem_toArray, List.getElem_cons_zero, List.getElem_cons_succ, List.setIfInBounds_toArray, List.set_cons_zero, List.set_cons_succ]
      refine wpAnyH_take (i := 6) (v := .slice (some ⟨Q, 0, none⟩) 32 32) rfl (by kernel_rfl) (by kernel_rfl) (by kernel_rfl) (fun _ _ _ h => h) (Or.inl ⟨by rfl, (by intro w hSw; (try dsimp only at hSw); go_simp)⟩) (by assumption) ?_
      try simp only [Act.put, List.getElem_toArray, List.getElem_cons_zero, List.getElem_cons_succ, List.setIfInBounds_toArray, List.set_cons_zero, List.set_cons_succ]
      refine wpAnyH_ready (rs := [3, 4]) (by kernel_rfl) (by simp) (AllReadyH.cons rfl (fun K hK => ?_) (AllReadyH.cons rfl (fun K hK => ?_) AllReadyH.nil))
      · skip
        try simp only [List.getElem_toArray, List.getElem_cons_zero, List.getElem_cons_succ]
        go_simp
        go_at_call 14
        refine (tree_walk i (HDG.out.below HV0.out.2.2.2 (fun b _ h => h)) (HR.out.below HV0.out.2.2.1 (by omega)) (by omega) (by omega)).mono ?_
        rintro e v1 ⟨rfl, hb⟩
        rw [HRS.out]
        have HV1 := Lib.hid (And.intro (HV0.out.1.below hb HV0.out.1.lt) (And.intro (HV0.out.2.1.below hb HV0.out.2.1.lt) (And.intro (HV0.out.2.2.1.trans (hb.mono (by have := HV0.out.1.lt; omega))) (HV0.out.2.2.2.trans (hb.mono HV0.out.2.2.2.size)))))
        clear hb HV0
        go_wp2_with fail
        refine hK.out _ _ trivial (fun hHeld => ?_)
        clear hK K
        try simp only [Act.put, List.getElem_toArray, List.getElem_cons_zero, List.getElem_cons_succ, List.setIfInBounds_toArray, List.set_cons_zero, List.set_cons_succ]
        refine wpAnyH_ready (rs := [4]) (by kernel_rfl) (by simp) (AllReadyH.cons rfl (fun K hK => ?_) AllReadyH.nil)
        · skip
          try simp only [List.getElem_toArray, List.getElem_cons_zero, List.getElem_cons_succ]
          go_simp
          refine hK.out _ _ trivial (fun hHeld => ?_)
          clear hK K
          try simp only [Act.put, List.getElem_toArray, List.getElem_cons_zero, List.getElem_cons_succ, List.setIfInBounds_toArray, List.set_cons_zero, List.set_cons_succ]
          have HO2 := Lib.hid (Whole.new v1 5 #[.int .u8 1])
          have HV2 := Lib.hid (And.intro (HV1.out.1.alloc (.cells #[.int .u8 1] 5)) (And.intro (HV1.out.2.1.alloc (.cells #[.int .u8 1] 5)) (And.intro (HV1.out.2.2.1.alloc (by have := HV1.out.1.lt; omega) (.cells #[.int .u8 1] 5)) (HV1.out.2.2.2.alloc HV1.out.2.2.2.size (.cells #[.int .u8 1] 5)))))
          generalize v1.alloc (.cells #[.int .u8 1] 5) = v2 at *
          generalize v1.heap.size = O at *
          refine wpAnyH_ready (rs := [7]) (by kernel_rfl) (by simp) (AllReadyH.cons rfl (fun K hK => ?_) AllReadyH.nil)
          · skip
            try simp only [List.getElem_toArray, List.getElem_cons_zero, List.getElem_cons_succ]
            go_simp
            refine hK.out _ _ trivial (fun hHeld => ?_)
            clear hK K
            try simp only [Act.put, List.getElem_toArray, List.getElem_cons_zero, List.getElem_cons_succ, List.setIfInBounds_toArray, List.set_cons_zero, List.set_cons_succ]
            have HL3 := Lib.hid (Whole.new v2 22 #[.slice (some ⟨O, 0, none⟩) 1 1, .slice (some ⟨P, 0, none⟩) 32 32, .slice (some ⟨Q, 0, none⟩) 32 32])
            have HV3 := Lib.hid (And.intro (HV2.out.1.alloc (.cells #[.slice (some ⟨O, 0, none⟩) 1 1, .slice (some ⟨P, 0, none⟩) 32 32, .slice (some ⟨Q, 0, none⟩) 32 32] 22)) (And.intro (HV2.out.2.1.alloc (.cells #[.slice (some ⟨O, 0, none⟩) 1 1, .slice (some ⟨P, 0, none⟩) 32 32, .slice (some ⟨Q, 0, none⟩) 32 32] 22)) (And.intro (HV2.out.2.2.1.alloc (by have := HV2.out.1.lt; omega) (.cells #[.slice (some ⟨O, 0, none⟩) 1 1, .slice (some ⟨P, 0, none⟩) 32 32, .slice (some ⟨Q, 0, none⟩) 32 32] 22)) (HV2.out.2.2.2.alloc HV2.out.2.2.2.size (.cells #[.slice (some ⟨O, 0, none⟩) 1 1, .slice (some ⟨P, 0, none⟩) 32 32, .slice (some ⟨Q, 0, none⟩) 32 32] 22)))))
            have HO3 := Lib.hid (HO2.out.alloc (.cells #[.slice (some ⟨O, 0, none⟩) 1 1, .slice (some ⟨P, 0, none⟩) 32 32, .slice (some ⟨Q, 0, none⟩) 32 32] 22))
            generalize v2.alloc (.cells #[.slice (some ⟨O, 0, none⟩) 1 1, .slice (some ⟨P, 0, none⟩) 32 32, .slice (some ⟨Q, 0, none⟩) 32 32] 22) = v3 at *
            generalize v2.heap.size = L at *
            refine wpAnyH_ready (rs := [8]) (by kernel_rfl) (by simp) (AllReadyH.cons rfl (fun K hK => ?_) AllReadyH.nil)
            try simp only [List.getElem_toArray, List.getElem_cons_zero, List.getElem_cons_succ]
            go_simp
            go_at_call 10
            have hp := parts_three (S := fun _ => True) HL3.out trivial (txt_of_whole (fun _ => True) trivial (l := [1]) HO3.out (byt_cons (by omega) (by omega) byt_nil) 1 1 (by simp) (by omega)) (txt_dig HV3.out.1 HDT.out.1) (txt_dig HV3.out.2.1 HDT.out.2.1)
            refine (sum_any hp (HR.out.below HV3.out.2.2.1 (by omega)) (by simp [HDT.out.1.1, HDT.out.2.1.1]) (by omega)).mono ?_
            rintro e v4 ⟨rfl, hb⟩
            rw [show [List.take 1 [1], x, y].flatten = 1 :: (x ++ y) by simp, ← HTR.out]
            have HE : Hid (Below B w v4) := Lib.hid (HV3.out.2.2.1.trans (hb.mono (by have := HV3.out.1.lt; omega)))
            clear hp hb
            go_wp2_with fail
            refine hK.out _ _ trivial (fun hHeld => ?_)
            clear hK K
            try simp only [Act.put, List.getElem_toArray, List.getElem_cons_zero, List.getElem_cons_succ, List.setIfInBounds_toArray, List.set_cons_zero, List.set_cons_succ]
            refine wpAnyH_take (i := 9) (v := .bool true) rfl (by kernel_rfl) (by kernel_rfl) (by kernel_rfl) (fun _ _ _ h => h) (Or.inl ⟨by rfl, (by intro w hSw; (try dsimp only at hSw); go_simp)⟩) (by assumption) ?_
            try simp only [Act.put, List.getElem_toArray, List.getElem_cons_zero, List.getElem_cons_succ, List.setIfInBounds_toArray, List.set_cons_zero, List.set_cons_succ]
            refine wpAnyH_take (i := 10) (v := .bool true) rfl (by kernel_rfl) (by kernel_rfl) (by kernel_rfl) (fun _ _ _ h => h) (Or.inl ⟨by rfl, (by intro w hSw; (try dsimp only at hSw); go_simp)⟩) (by assumption) ?_
            try simp only [Act.put, List.getElem_toArray, List.getElem_cons_zero, List.getElem_cons_succ, List.setIfInBounds_toArray, List.set_cons_zero, List.set_cons_succ]
            refine wpAnyH_take (i := 11) (v := .bool true) rfl (by kernel_rfl) (by kernel_rfl) (by kernel_rfl) (fun _ _ _ h => h) (Or.inl ⟨by rfl, (by intro w hSw; (try dsimp only at hSw); go_simp)⟩) (by assumption) ?_
            try simp only [Act.put, List.getElem_toArray, List.getElem_cons_zero, List.getElem_cons_succ, List.setIfInBounds_toArray, List.set_cons_zero, List.set_cons_succ]
            refine wpAnyH_done (by kernel_rfl) ?_ _
            go_wp2
            go_ret
            exact ⟨rfl, by rw [HBE.out]; exact HE.out⟩
      · skip
        try simp only [List.getElem_toArray, List.getElem_cons_zero, List.getElem_cons_succ]
        go_simp
        refine hK.out _ _ trivial (fun hHeld => ?_)
        clear hK K
        try simp only [Act.put, List.getElem_toArray, List.getElem_cons_zero, List.getElem_cons_succ, List.setIfInBounds_toArray, List.set_cons_zero, List.set_cons_succ]
        have HO1 := Lib.hid (Whole.new v0 5 #[.int .u8 1])
        have HV1 := Lib.hid (And.intro (HV0.out.1.alloc (.cells #[.int .u8 1] 5)) (And.intro (HV0.out.2.1.alloc (.cells #[.int .u8 1] 5)) (And.intro (HV0.out.2.2.1.alloc (by have := HV0.out.1.lt; omega) (.cells #[.int .u8 1] 5)) (HV0.out.2.2.2.alloc HV0.out.2.2.2.size (.cells #[.int .u8 1] 5)))))
        generalize v0.alloc (.cells #[.int .u8 1] 5) = v1 at *
        generalize v0.heap.size = O at *
        refine wpAnyH_ready (rs := [3, 7]) (by kernel_rfl) (by simp) (AllReadyH.cons rfl (fun K hK => ?_) (AllReadyH.cons rfl (fun K hK => ?_) AllReadyH.nil))
        · skip
          try simp only [List.getElem_toArray, List.getElem_cons_zero, List.getElem_cons_succ]
          go_simp
          go_at_call 14
          refine (tree_walk i (HDG.out.below HV1.out.2.2.2 (fun b _ h => h)) (HR.out.below HV1.out.2.2.1 (by omega)) (by omega) (by omega)).mono ?_
          rintro e v2 ⟨rfl, hb⟩
          rw [HRS.out]
          have HV2 := Lib.hid (And.intro (HV1.out.1.below hb HV1.out.1.lt) (And.intro (HV1.out.2.1.below hb HV1.out.2.1.lt) (And.intro (HV1.out.2.2.1.trans (hb.mono (by have := HV1.out.1.lt; omega))) (HV1.out.2.2.2.trans (hb.mono HV1.out.2.2.2.size)))))
          have HO2 := Lib.hid (HO1.out.below hb HO1.out.lt)
          clear hb HV1
          go_wp2_with fail
          refine hK.out _ _ trivial (fun hHeld => ?_)
          clear hK K
          try simp only [Act.put, List.getElem_toArray, List.getElem_cons_zero, List.getElem_cons_succ, List.setIfInBounds_toArray, List.set_cons_zero, List.set_cons_succ]
          refine wpAnyH_ready (rs := [7]) (by kernel_rfl) (by simp) (AllReadyH.cons rfl (fun K hK => ?_) AllReadyH.nil)
          · skip
            try simp only [List.getElem_toArray, List.getElem_cons_zero, List.getElem_cons_succ]
            go_simp
            refine hK.out _ _ trivial (fun hHeld => ?_)
            clear hK K
            try simp only [Act.put, List.getElem_toArray, List.getElem_cons_zero, List.getElem_cons_succ, List.setIfInBounds_toArray, List.set_cons_zero, List.set_cons_succ]
            have HL3 := Lib.hid (Whole.new v2 22 #[.slice (some ⟨O, 0, none⟩) 1 1, .slice (some ⟨P, 0, none⟩) 32 32, .slice (some ⟨Q, 0, none⟩) 32 32])
            have HV3 := Lib.hid (And.intro (HV2.out.1.alloc (.cells #[.slice (some ⟨O, 0, none⟩) 1 1, .slice (some ⟨P, 0, none⟩) 32 32, .slice (some ⟨Q, 0, none⟩) 32 32] 22)) (And.intro (HV2.out.2.1.alloc (.cells #[.slice (some ⟨O, 0, none⟩) 1 1, .slice (some ⟨P, 0, none⟩) 32 32, .slice (some ⟨Q, 0, none⟩) 32 32] 22)) (And.intro (HV2.out.2.2.1.alloc (by have := HV2.out.1.lt; omega) (.cells #[.slice (some ⟨O, 0, none⟩) 1 1, .slice (some ⟨P, 0, none⟩) 32 32, .slice (some ⟨Q, 0, none⟩) 32 32] 22)) (HV2.out.2.2.2.alloc HV2.out.2.2.2.size (.cells #[.slice (some ⟨O, 0, none⟩) 1 1, .slice (some ⟨P, 0, none⟩) 32 32, .slice (some ⟨Q, 0, none⟩) 32 32] 22)))))
            have HO3 := Lib.hid (HO2.out.alloc (.cells #[.slice (some ⟨O, 0, none⟩) 1 1, .slice (some ⟨P, 0, none⟩) 32 32, .slice (some ⟨Q, 0, none⟩) 32 32] 22))
            generalize v2.alloc (.cells #[.slice (some ⟨O, 0, none⟩) 1 1, .slice (some ⟨P, 0, none⟩) 32 32, .slice (some ⟨Q, 0, none⟩) 32 32] 22) = v3 at *
            generalize v2.heap.size = L at *
            refine wpAnyH_ready (rs := [8]) (by kernel_rfl) (by simp) (AllReadyH.cons rfl (fun K hK => ?_) AllReadyH.nil)
            try simp only [List.getElem_toArray, List.getElem_cons_zero, List.getElem_cons_succ]
            go_simp
            go_at_call 10
            have hp := parts_three (S := fun _ => True) HL3.out trivial (txt_of_whole (fun _ => True) trivial (l := [1]) HO3.out (byt_cons (by omega) (by omega) byt_nil) 1 1 (by simp) (by omega)) (txt_dig HV3.out.1 HDT.out.1) (txt_dig HV3.out.2.1 HDT.out.2.1)
            refine (sum_any hp (HR.out.below HV3.out.2.2.1 (by omega)) (by simp [HDT.out.1.1, HDT.out.2.1.1]) (by omega)).mono ?_
            rintro e v4 ⟨rfl, hb⟩
            rw [show [List.take 1 [1], x, y].flatten = 1 :: (x ++ y) by simp, ← HTR.out]
            have HE : Hid (Below B w v4) := Lib.hid (HV3.out.2.2.1.trans (hb.mono (by have := HV3.out.1.lt; omega)))
            clear hp hb
            go_wp2_with fail
            refine hK.out _ _ trivial (fun hHeld => ?_)
            clear hK K
            try simp only [Act.put, List.getElem_toArray, List.getElem_cons_zero, List.getElem_cons_succ, List.setIfInBounds_toArray, List.set_cons_zero, List.set_cons_succ]
            refine wpAnyH_take (i := 9) (v := .bool true) rfl (by kernel_rfl) (by kernel_rfl) (by kernel_rfl) (fun _ _ _ h => h) (Or.inl ⟨by rfl, (by intro w hSw; (try dsimp only at hSw); go_simp)⟩) (by assumption) ?_
            try simp only [Act.put, List.getElem_toArray, List.getElem_cons_zero, List.getElem_cons_succ, List.setIfInBounds_toArray, List.set_cons_zero, List.set_cons_succ]
            refine wpAnyH_take (i := 10) (v := .bool true) rfl (by kernel_rfl) (by kernel_rfl) (by kernel_rfl) (fun _ _ _ h => h) (Or.inl ⟨by rfl, (by intro w hSw; (try dsimp only at hSw); go_simp)⟩) (by assumption) ?_
            try simp only [Act.put, List.getElem_toArray, List.getElem_cons_zero, List.getElem_cons_succ, List.setIfInBounds_toArray, List.set_cons_zero, List.set_cons_succ]
            refine wpAnyH_take (i := 11) (v := .bool true) rfl (by kernel_rfl) (by kernel_rfl) (by kernel_rfl) (fun _ _ _ h => h) (Or.inl ⟨by rfl, (by intro w hSw; (try dsimp only at hSw); go_simp)⟩) (by assumption) ?_
            try simp only [Act.put, List.getElem_toArray, List.getElem_cons_zero, List.getElem_cons_succ, List.setIfInBounds_toArray, List.set_cons_zero, List.set_cons_succ]
            refine wpAnyH_done (by kernel_rfl) ?_ _
            go_wp2
            go_ret
            exact ⟨rfl, by rw [HBE.out]; exact HE.out⟩
        · skip
          try simp only [List.getElem_toArray, List.getElem_cons_zero, List.getElem_cons_succ]
          go_simp
          refine hK.out _ _ trivial (fun hHeld => ?_)
          clear hK K
          try simp only [Act.put, List.getElem_toArray, List.getElem_cons_zero, List.getElem_cons_succ, List.setIfInBounds_toArray, List.set_cons_zero, List.set_cons_succ]
          have HL2 := Lib.hid (Whole.new v1 22 #[.slice (some ⟨O, 0, none⟩) 1 1, .slice (some ⟨P, 0, none⟩) 32 32, .slice (some ⟨Q, 0, none⟩) 32 32])
          have HV2 := Lib.hid (And.intro (HV1.out.1.alloc (.cells #[.slice (some ⟨O, 0, none⟩) 1 1, .slice (some ⟨P, 0, none⟩) 32 32, .slice (some ⟨Q, 0, none⟩) 32 32] 22)) (And.intro (HV1.out.2.1.alloc (.cells #[.slice (some ⟨O, 0, none⟩) 1 1, .slice (some ⟨P, 0, none⟩) 32 32, .slice (some ⟨Q, 0, none⟩) 32 32] 22)) (And.intro (HV1.out.2.2.1.alloc (by have := HV1.out.1.lt; omega) (.cells #[.slice (some ⟨O, 0, none⟩) 1 1, .slice (some ⟨P, 0, none⟩) 32 32, .slice (some ⟨Q, 0, none⟩) 32 32] 22)) (HV1.out.2.2.2.alloc HV1.out.2.2.2.size (.cells #[.slice (some ⟨O, 0, none⟩) 1 1, .slice (some ⟨P, 0, none⟩) 32 32, .slice (some ⟨Q, 0, none⟩) 32 32] 22)))))
          have HO2 := Lib.hid (HO1.out.alloc (.cells #[.slice (some ⟨O, 0, none⟩) 1 1, .slice (some ⟨P, 0, none⟩) 32 32, .slice (some ⟨Q, 0, none⟩) 32 32] 22))
          generalize v1.alloc (.cells #[.slice (some ⟨O, 0, none⟩) 1 1, .slice (some ⟨P, 0, none⟩) 32 32, .slice (some ⟨Q, 0, none⟩) 32 32] 22) = v2 at *
          generalize v1.heap.size = L at *
          refine wpAnyH_ready (rs := [3]) (by kernel_rfl) (by simp) (AllReadyH.cons rfl (fun K hK => ?_) AllReadyH.nil)
          · skip
            try simp only [List.getElem_toArray, List.getElem_cons_zero, List.getElem_cons_succ]
            go_simp
            go_at_call 14
            refine (tree_walk i (HDG.out.below HV2.out.2.2.2 (fun b _ h => h)) (HR.out.below HV2.out.2.2.1 (by omega)) (by omega) (by omega)).mono ?_
            rintro e v3 ⟨rfl, hb⟩
            rw [HRS.out]
            have HV3 := Lib.hid (And.intro (HV2.out.1.below hb HV2.out.1.lt) (And.intro (HV2.out.2.1.below hb HV2.out.2.1.lt) (And.intro (HV2.out.2.2.1.trans (hb.mono (by have := HV2.out.1.lt; omega))) (HV2.out.2.2.2.trans (hb.mono HV2.out.2.2.2.size)))))
            have HO3 := Lib.hid (HO2.out.below hb HO2.out.lt)
            have HL3 := Lib.hid (HL2.out.below hb HL2.out.lt)
            clear hb HV2
            go_wp2_with fail
            refine hK.out _ _ trivial (fun hHeld => ?_)
            clear hK K
            try simp only [Act.put, List.getElem_toArray, List.getElem_cons_zero, List.getElem_cons_succ, List.setIfInBounds_toArray, List.set_cons_zero, List.set_cons_succ]
            refine wpAnyH_ready (rs := [8]) (by kernel_rfl) (by simp) (AllReadyH.cons rfl (fun K hK => ?_) AllReadyH.nil)
            try simp only [List.getElem_toArray, List.getElem_cons_zero, List.getElem_cons_succ]
            go_simp
            go_at_call 10
            have hp := parts_three (S := fun _ => True) HL3.out trivial (txt_of_whole (fun _ => True) trivial (l := [1]) HO3.out (byt_cons (by omega) (by omega) byt_nil) 1 1 (by simp) (by omega)) (txt_dig HV3.out.1 HDT.out.1) (txt_dig HV3.out.2.1 HDT.out.2.1)
            refine (sum_any hp (HR.out.below HV3.out.2.2.1 (by omega)) (by simp [HDT.out.1.1, HDT.out.2.1.1]) (by omega)).mono ?_
            rintro e v4 ⟨rfl, hb⟩
            rw [show [List.take 1 [1], x, y].flatten = 1 :: (x ++ y) by simp, ← HTR.out]
            have HE : Hid (Below B w v4) := Lib.hid (HV3.out.2.2.1.trans (hb.mono (by have := HV3.out.1.lt; omega)))
            clear hp hb
            go_wp2_with fail
            refine hK.out _ _ trivial (fun hHeld => ?_)
            clear hK K
            try simp only [Act.put, List.getElem_toArray, List.getElem_cons_zero, List.getElem_cons_succ, List.setIfInBounds_toArray, List.set_cons_zero, List.set_cons_succ]
            refine wpAnyH_take (i := 9) (v := .bool true) rfl (by kernel_rfl) (by kernel_rfl) (by kernel_rfl) (fun _ _ _ h => h) (Or.inl ⟨by rfl, (by intro w hSw; (try dsimp only at hSw); go_simp)⟩) (by assumption) ?_
            try simp only [Act.put, List.getElem_toArray, List.getElem_cons_zero, List.getElem_cons_succ, List.setIfInBounds_toArray, List.set_cons_zero, List.set_cons_succ]
            refine wpAnyH_take (i := 10) (v := .bool true) rfl (by kernel_rfl) (by kernel_rfl) (by kernel_rfl) (fun _ _ _ h => h) (Or.inl ⟨by rfl, (by intro w hSw; (try dsimp only at hSw); go_simp)⟩) (by assumption) ?_
            try simp only [Act.put, List.getElem_toArray, List.getElem_cons_zero, List.getElem_cons_succ, List.setIfInBounds_toArray, List.set_cons_zero, List.set_cons_succ]
            refine wpAnyH_take (i := 11) (v := .bool true) rfl (by kernel_rfl) (by kernel_rfl) (by kernel_rfl) (fun _ _ _ h => h) (Or.inl ⟨by rfl, (by intro w hSw; (try dsimp only at hSw); go_simp)⟩) (by assumption) ?_
            try simp only [Act.put, List.getElem_toArray, List.getElem_cons_zero, List.getElem_cons_succ, List.setIfInBounds_toArray, List.set_cons_zero, List.set_cons_succ]
            refine wpAnyH_done (by kernel_rfl) ?_ _
            go_wp2
            go_ret
            exact ⟨rfl, by rw [HBE.out]; exact HE.out⟩
end Go.Proofs.YtndiojiphoomgaaDoor
