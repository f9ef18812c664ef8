/-
  The walk of the statement ShaParts.
-/
import Derived.Test.YtndiojiphoomgaaDoorHo
namespace Go.Proofs.YtndiojiphoomgaaDoor
open Go.RowKit
theorem own_form {w : World} {base e size n : Nat} {v : Value} {xs : List Value} (h : w.ownsRow base e size v n xs) : ∃ q cap, v = .slice q n cap := by
  rcases h.2 with ⟨rfl, h0⟩ | ⟨g', cap, _, rfl, _⟩
  · exact ⟨_, _, by rw [h0]⟩
  · exact ⟨_, _, rfl⟩
theorem slice_info : (Tryd.prog.info? 22).map (fun i => (i.zero, i.size, i.bytes)) = some (some (.slice none 0 0), 1, 24) := by kernel_rfl
/-- append of a few values of one cell each, that lie in a new block. -/
theorem wpList_append_new {w : World} {ops : Array Oper} {rest : List Oper} {o : Oper} {a : Act} {Q : Exit → Act → World → Prop} (hgd : o.guard = none) (s x : Operand)
    (ho : o.op = .call { callee := .builtin .append, args := #[s, x], argTypes := #[33, 33] })
    (base : Nat) (v : Value) (n : Nat) (xs : List Value) (hs : a.eval s = v) (hown : w.ownsRow base 22 1 v n xs)
    (g : Nat) (T : TypeId) (ys : List Value) (m c : Nat) (hx : a.eval x = .slice (some ⟨g, 0, none⟩) m c) (hm : ys.length = m) (hg : Whole w g T ys.toArray) (h1 : ∀ u ∈ ys, u.oneCell' = true)
    (hn : n + m ≤ 1000000) (hbase : base ≤ w.heap.size)
    (h : ∀ v' w', w'.ownsRow base 22 1 v' (n + m) (xs ++ ys) → w.grownBy w' v.ownBlock → wpList Tryd.prog ops Q rest (a.put o.dst v') w') : wpList Tryd.prog ops Q (o :: rest) a w := by
  obtain ⟨i0, hi0, hz0, hz1, hz2⟩ := info_parts slice_info
  refine wpList_plain hgd fun _ hK => ?_
  obtain ⟨v', w', hrun, h2, h3, _, h5⟩ := run_append_own_at (P := Tryd.prog) w base 33 o.type 22 i0 (.slice none 0 0) 1 24 Tryd.underlying33 hi0 hz0 hz1 hz2 rfl (by omega) v n xs hown ⟨g, 0, none⟩ m c ys (by omega) (fun j u hu => by rw [Addr.add_lit, Nat.zero_add, hg.cell, List.getElem?_toArray]; exact hu) h1 (by unfold maxLen; omega) (by omega) hbase
  unfold Oper.wp execOp
  simp only [ho, resolve, invoke, builtin, Sem.run_bind, Sem.run_pure, Result.andThen_ok, List.map_toArray, List.map_cons, List.map_nil, hs, hx, hrun]
  exact hK _ _ (h v' w' h2 h3)
theorem slice_to {a : Option Addr} {n c k : Nat} (h1 : k ≤ c) (w : World) : (Instr.slice 22 (.slice a n c) none (some (.int .i64 (k : Int))) none).run Tryd.prog w = .ok (.slice a k c) w := by
  have hb : (0 : Int) ≤ (k : Int) ∧ (k : Int) ≤ (c : Int) := by omega
  have e : (if c = 0 then a else Option.map (fun x => x.add (0 * 1)) a) = a := by
    split
    · rfl
    · cases a <;> simp [Addr.add]
  simp only [Instr.slice, Instr.sliceBounds, Instr.sliceBound, Sem.run_bind, Sem.run_pure, Result.andThen_ok, run_underlying Tryd.underlying22, asIntOf, if_pos hb, sz_u8, Int.toNat_natCast, e, Nat.sub_zero]
/-- The slices vs are the texts ps. -/
def Cuts (w : World) (S : Nat → Prop) (vs : List Value) (ps : List (List Int)) : Prop := vs.length = ps.length ∧ ∀ k, k < ps.length → ∃ a n c, vs[k]? = some (.slice a n c) ∧ Txt w S a n c (ps.getD k [])
theorem Cuts.nil (w : World) (S : Nat → Prop) : Cuts w S [] [] := ⟨rfl, fun k hk => by simp at hk⟩
theorem Cuts.snoc {w : World} {S : Nat → Prop} {vs : List Value} {ps : List (List Int)} {a : Option Addr} {n c : Nat} {l : List Int} (h : Cuts w S vs ps) (ht : Txt w S a n c l) : Cuts w S (vs ++ [.slice a n c]) (ps ++ [l]) := by
  refine ⟨by simp [h.1], fun k hk => ?_⟩
  by_cases hlt : k < ps.length
  · obtain ⟨a', n', c', h1, h2⟩ := h.2 k hlt
    refine ⟨a', n', c', by rw [List.getElem?_append_left (by rw [h.1]; exact hlt)]; exact h1, ?_⟩
    have : (ps ++ [l]).getD k [] = ps.getD k [] := by simp [List.getElem?_append_left hlt]
    rw [this]; exact h2
  · have hk' : k = ps.length := by simp at hk; omega
    subst hk'
    refine ⟨a, n, c, by rw [List.getElem?_append_right (by rw [h.1]; exact Nat.le_refl _), h.1]; simp, ?_⟩
    simpa using ht
theorem Cuts.one {w : World} {S : Nat → Prop} {vs : List Value} {ps : List (List Int)} (h : Cuts w S vs ps) : ∀ u ∈ vs, u.oneCell' = true := by
  intro u hu
  obtain ⟨k, hk, rfl⟩ := List.getElem_of_mem hu
  obtain ⟨a, n, c, h1, _⟩ := h.2 k (by rw [← h.1]; exact hk)
  rw [List.getElem?_eq_getElem hk] at h1
  injection h1 with h1
  rw [h1]; rfl
theorem own_parts {w : World} {base n : Nat} {q : Option Addr} {cap : Nat} {S : Nat → Prop} {vs : List Value} {ps : List (List Int)} (h : w.ownsRow base 22 1 (.slice q n cap) n vs) (hc : Cuts w S vs ps) (hn : ps.length = n) : Parts w (fun _ => True) q n ps := by
  refine ⟨hn, ?_⟩
  by_cases h0 : n = 0
  · left; exact List.eq_nil_of_length_eq_zero (by omega)
  · right
    obtain ⟨g, cap', hv, hb, hlt⟩ := h.form (by omega)
    injection hv with e1 _ _
    subst e1
    refine ⟨g, 0, rfl, trivial, hlt, fun k hk => ?_⟩
    obtain ⟨a, n', c, h1, h2⟩ := hc.2 k (by omega)
    exact ⟨a, n', c, by rw [Nat.zero_add, h.cellAt k (by omega)]; exact h1, h2.weak (fun _ _ _ => trivial)⟩
theorem Cuts.keep {w w' : World} {B : Nat} {vs : List Value} {ps : List (List Int)} (h : Cuts w (· < B) vs ps) (hb : Below B w w') : Cuts w' (· < B) vs ps :=
  ⟨h.1, fun k hk => by obtain ⟨a, n, c, h1, h2⟩ := h.2 k hk; exact ⟨a, n, c, h1, h2.below hb (fun _ _ h => h)⟩⟩
set_option linter.unusedSimpArgs false in
set_option maxHeartbeats 4000000 in
theorem parts_walk (a0 : Option Addr) (n0 c0 : Nat) (l0 : List Int) (a1 : Option Addr) (n1 c1 : Nat) (l1 : List Int) (w : World) (hR : Roots w) (h0 : Txt w (· < w.heap.size) a0 n0 c0 l0) (h1 : Nums w a1 n1 l1) :
    Calls Tryd.prog 5 #[.slice a0 n0 c0, .slice a1 n1 c1] w fun e w' => e = .returned (.bool true) ∧ Below w.heap.size w w' := by
  have H0 := Lib.hid h0
  have H1 := Lib.hid h1
  have HR := Lib.hid hR
  have hB2 := hR.two
  clear h0 h1 hR
  by_cases g0 : 1000 < n0
  · have d0 : decide ((1000 : Int) < (n0 : Int)) = true := by simp; omega
    go_enter Tryd.func5, Tryd.ntmps5
    go_wp2_with (go_at_call 9; refine (awake_any _ HR.out).mono ?_; rintro e w' ⟨rfl, hb⟩; have HB := Lib.hid hb; clear hb)
    go_ret
    exact ⟨rfl, HB.out⟩
  have d0 : decide ((1000 : Int) < (n0 : Int)) = false := by simp; omega
  go_enter Tryd.func5, Tryd.ntmps5
  go_wp2_with (go_at_call 9; refine (awake_any _ HR.out).mono ?_; rintro e w1 ⟨rfl, hb⟩; have HB := Lib.hid hb; clear hb)
  generalize hBe : w.heap.size = B at *
  have HBE := Lib.hid hBe
  clear hBe
  go_loopw [6, 7, 8] (fun v6 v7 v8 wr => ∃ i : Nat, i ≤ 20 ∧ v8 = .int .i64 i ∧ ∃ q cap a' n' c', v6 = .slice q i cap ∧ v7 = .slice a' n' c' ∧ n' ≤ n0 ∧ Hid (Below B w wr ∧ ∃ vs ps r, ps.length = i ∧ wr.ownsRow B 22 1 (.slice q i cap) i vs ∧ Cuts w (· < B) vs ps ∧ Txt w (· < B) a' n' c' r ∧ ps.flatten ++ r = l0)) (fun _ _ v8 _ => 20 - (intOf v8).toNat)
  case atStart => exact ⟨0, by omega, rfl, none, 0, a0, n0, c0, rfl, rfl, Nat.le_refl _, Lib.hid ⟨HB.out, [], [], l0, rfl, World.ownsRow_nil _ _ _ _, Cuts.nil _ _, H0.out, rfl⟩⟩
  case round =>
    clear HB
    obtain ⟨i, hi, rfl, q, cap, a', n', c', rfl, rfl, hn', HH⟩ := hrel
    by_cases hlt : i < n1 ∧ i < 20
    · obtain ⟨hl1, hl2⟩ := hlt
      have d1 : decide ((i : Int) < (n1 : Int)) = true := by simp; omega
      have d2 : decide ((i : Int) < 20) = true := by simp; omega
      obtain ⟨x, hx1, hx2, b1, off1, hb1, hc1⟩ : ∃ x, -9223372036854775808 ≤ x ∧ x ≤ 9223372036854775807 ∧ ∃ b off, a1 = some ⟨b, off, none⟩ ∧ wr.cell? ⟨b, off + i, none⟩ = some (.int .i64 x) := by
        obtain ⟨hl, hr, hc⟩ := H1.out
        rcases hc with hc | ⟨b, off, ha, hlt, hc⟩
        · rw [hc] at hl; simp at hl; omega
        · refine ⟨l1.getD i 0, ?_, ?_, b, off, ha, ?_⟩
          · have hil : i < l1.length := by omega
            have : l1.getD i 0 = l1[i] := by simp [hil]
            rw [this]; exact (hr _ (List.getElem_mem hil)).1
          · have hil : i < l1.length := by omega
            have : l1.getD i 0 = l1[i] := by simp [hil]
            rw [this]; exact (hr _ (List.getElem_mem hil)).2
          · rw [← hc i hl1]
            exact HH.out.1.cell (p := ⟨b, off + i, none⟩) (by rw [← HBE.out]; exact hlt)
      subst hb1
      have r1 : (i : Int) < (n1 : Int) := by omega
      by_cases hneg : x < 0
      · obtain ⟨y, hy⟩ : ∃ y, -(x + 1) = y := ⟨_, rfl⟩
        have hy0 : 0 ≤ y := by omega
        have hy1 : y ≤ 9223372036854775807 := by omega
        obtain ⟨j, hj⟩ : ∃ j : Nat, (y) % ((n' : Int) + 1) = (j : Int) := ⟨((y) % ((n' : Int) + 1)).toNat, by have := Int.emod_nonneg (y) (show (n' : Int) + 1 ≠ 0 by omega); omega⟩
        have hjn : j ≤ n' := by have := Int.emod_lt_of_pos (y) (show (0 : Int) < (n' : Int) + 1 by omega); omega
        obtain ⟨hbel, vs, ps, r, hps, hown, hcut, htx, hfl⟩ := HH.out
        have hnc : n' ≤ c' := htx.2.1
        obtain ⟨A, hsl, HTD⟩ : ∃ A, (∀ w, (Instr.slice 22 (.slice a' n' c') (some (.int .i64 (j : Int))) none none).run Tryd.prog w = .ok (.slice A (n' - j) (c' - j)) w) ∧ Hid (Txt w (· < B) A (n' - j) (c' - j) (r.drop j)) := ⟨_, slice_from hjn, Lib.hid (htx.drop j hjn)⟩
        have hsh : ∀ w, (Instr.slice 22 (.slice a' n' c') none (some (.int .i64 (j : Int))) none).run Tryd.prog w = .ok (.slice a' j c') w := slice_to (by omega)
        have HC : Hid (Cuts w (· < B) (vs ++ [.slice a' j c']) (ps ++ [r.take j])) := Lib.hid (hcut.snoc (htx.take j hjn))
        have HF : Hid ((ps ++ [r.take j]).flatten ++ r.drop j = l0 ∧ (ps ++ [r.take j]).length = i + 1) := Lib.hid ⟨by rw [← hfl]; simp, by simp [hps]⟩
        have HO := Lib.hid hown
        have HBL := Lib.hid hbel
        have sw : B ≤ wr.heap.size := by rw [← HBE.out]; exact hbel.size
        clear hbel hps hown hcut htx hfl HH
        have hq : Whole (wr.alloc (.cells #[.slice a' j c'] 22)) wr.heap.size 22 [.slice a' j c'].toArray := Whole.new _ _ _
        have HQ := Lib.hid hq
        clear hq
        go_wp2_with (at_builtin; refine wpList_append_new rfl (.tmp 40) (.tmp 44) rfl B _ i vs rfl ?c1 wr.heap.size 22 [.slice a' j c'] 1 1 rfl rfl HQ.out ?c2 ?c3 ?c4 ?_)
        case c1 => exact HO.out.alloc _
        case c2 => first | rfl | (intro u hu; simp at hu; subst hu; rfl)
        case c3 => omega
        case c4 => first | omega | (simp; omega)
        intro v5 w5 hown hg
        have HO5 := Lib.hid hown
        have HB5 : Hid (Below B w w5) := Lib.hid ((HBL.out.alloc sw _).grown hg (by simp; omega) (fun k hk => (HO.out.lt k hk).1))
        clear hown hg
        obtain ⟨q5, cap5, rfl⟩ := own_form HO5.out
        go_wp2
        go_roundw
        case rel => exact ⟨i + 1, by omega, by go_num, q5, cap5, A, n' - j, c' - j, rfl, rfl, by omega, Lib.hid ⟨HB5.out, vs ++ [.slice a' j c'], ps ++ [r.take j], r.drop j, HF.out.2, HO5.out, HC.out, HTD.out, HF.out.1⟩⟩
        case measure => simp [intOf]; omega
      · skip
        obtain ⟨j, hj⟩ : ∃ j : Nat, (x) % ((n' : Int) + 1) = (j : Int) := ⟨((x) % ((n' : Int) + 1)).toNat, by have := Int.emod_nonneg (x) (show (n' : Int) + 1 ≠ 0 by omega); omega⟩
        have hjn : j ≤ n' := by have := Int.emod_lt_of_pos (x) (show (0 : Int) < (n' : Int) + 1 by omega); omega
        obtain ⟨hbel, vs, ps, r, hps, hown, hcut, htx, hfl⟩ := HH.out
        have hnc : n' ≤ c' := htx.2.1
        obtain ⟨A, hsl, HTD⟩ : ∃ A, (∀ w, (Instr.slice 22 (.slice a' n' c') (some (.int .i64 (j : Int))) none none).run Tryd.prog w = .ok (.slice A (n' - j) (c' - j)) w) ∧ Hid (Txt w (· < B) A (n' - j) (c' - j) (r.drop j)) := ⟨_, slice_from hjn, Lib.hid (htx.drop j hjn)⟩
        have hsh : ∀ w, (Instr.slice 22 (.slice a' n' c') none (some (.int .i64 (j : Int))) none).run Tryd.prog w = .ok (.slice a' j c') w := slice_to (by omega)
        have HC : Hid (Cuts w (· < B) (vs ++ [.slice a' j c']) (ps ++ [r.take j])) := Lib.hid (hcut.snoc (htx.take j hjn))
        have HF : Hid ((ps ++ [r.take j]).flatten ++ r.drop j = l0 ∧ (ps ++ [r.take j]).length = i + 1) := Lib.hid ⟨by rw [← hfl]; simp, by simp [hps]⟩
        have HO := Lib.hid hown
        have HBL := Lib.hid hbel
        have sw : B ≤ wr.heap.size := by rw [← HBE.out]; exact hbel.size
        clear hbel hps hown hcut htx hfl HH
        have hq : Whole (wr.alloc (.cells #[.slice a' j c'] 22)) wr.heap.size 22 [.slice a' j c'].toArray := Whole.new _ _ _
        have HQ := Lib.hid hq
        clear hq
        go_wp2_with (at_builtin; refine wpList_append_new rfl (.tmp 40) (.tmp 44) rfl B _ i vs rfl ?c1 wr.heap.size 22 [.slice a' j c'] 1 1 rfl rfl HQ.out ?c2 ?c3 ?c4 ?_)
        case c1 => exact HO.out.alloc _
        case c2 => first | rfl | (intro u hu; simp at hu; subst hu; rfl)
        case c3 => omega
        case c4 => first | omega | (simp; omega)
        intro v5 w5 hown hg
        have HO5 := Lib.hid hown
        have HB5 : Hid (Below B w w5) := Lib.hid ((HBL.out.alloc sw _).grown hg (by simp; omega) (fun k hk => (HO.out.lt k hk).1))
        clear hown hg
        obtain ⟨q5, cap5, rfl⟩ := own_form HO5.out
        go_wp2
        go_roundw
        case rel => exact ⟨i + 1, by omega, by go_num, q5, cap5, A, n' - j, c' - j, rfl, rfl, by omega, Lib.hid ⟨HB5.out, vs ++ [.slice a' j c'], ps ++ [r.take j], r.drop j, HF.out.2, HO5.out, HC.out, HTD.out, HF.out.1⟩⟩
        case measure => simp [intOf]; omega
    · have dd : (¬ i < n1) ∨ (i < n1 ∧ i = 20) := by omega
      obtain ⟨hbel, vs, ps, r, hps, hown, hcut, htx, hfl⟩ := HH.out
      have HC := Lib.hid (Cuts.snoc (Cuts.snoc hcut htx) (Txt.nil w (· < B) none 0))
      have HF : Hid ((ps ++ [r] ++ [[]]).flatten = l0 ∧ (ps ++ [r] ++ [[]]).length = i + 2) := Lib.hid ⟨by rw [← hfl]; simp, by simp [hps]⟩
      have HO := Lib.hid hown
      have HBL := Lib.hid hbel
      have sw : B ≤ wr.heap.size := by rw [← HBE.out]; exact hbel.size
      clear hbel hps hown hcut htx hfl HH
      have hq : Whole (wr.alloc (.cells #[.slice a' n' c', .slice none 0 0] 22)) wr.heap.size 22 [.slice a' n' c', .slice none 0 0].toArray := Whole.new _ _ _
      have HQ := Lib.hid hq
      clear hq
      have HDL := Lib.hid (dig_ok l0)
      have hqe : ∀ w : World, (Op.equalIn 10000 24 (.agg (nums (Sm.dig l0)).toArray) (.agg (nums (Sm.dig l0)).toArray)).run Tryd.prog w = .ok true w := fun w => by
        have h := equal32 9999 (fun a b w => run_equalIn_int w 9998 5 .u8 .u8 a b Tryd.underlying5) (Sm.dig l0) (Sm.dig l0) HDL.out.1 HDL.out.1 w
        rw [h, decide_eq_true rfl]
      clear hlt
      rcases dd with dd | ⟨dd, dd2⟩
      · have e2 : decide ((i : Int) < (n1 : Int)) = false := by simp; omega
        try have HD := Lib.hid dd2
        try clear dd2
        go_wp2_with (at_builtin; refine wpList_append_new rfl (.tmp 49) (.tmp 51) rfl B _ i vs rfl ?c1 wr.heap.size 22 [.slice a' n' c', .slice none 0 0] 2 2 rfl rfl HQ.out ?c2 ?c3 ?c4 ?_)
        case c1 => exact HO.out.alloc _
        case c2 => first | exact ⟨rfl, rfl⟩ | (intro u hu; simp at hu; rcases hu with hu | hu <;> (subst hu; rfl))
        case c3 => omega
        case c4 => first | omega | (simp; omega)
        intro v5 w5 hown hg
        have HO5 := Lib.hid hown
        have HB5 : Hid (Below B w w5) := Lib.hid ((HBL.out.alloc sw _).grown hg (by simp; omega) (fun k hk => (HO.out.lt k hk).1))
        clear hown hg
        obtain ⟨q5, cap5, rfl⟩ := own_form HO5.out
        have hp : Parts w5 (fun _ => True) q5 (i + 2) (ps ++ [r] ++ [[]]) := own_parts HO5.out (by have := HC.out.keep HB5.out; simpa using this) HF.out.2
        have HP := Lib.hid hp
        clear hp
        have s5 : B ≤ w5.heap.size := by rw [← HBE.out]; exact HB5.out.size
        go_wp2_with fail
        refine (sum_any HP.out (HR.out.below HB5.out (by omega)) (by rw [HF.out.1, H0.out.1]; omega) (by omega)).mono ?_
        rintro e w6 ⟨rfl, hb⟩
        rw [HF.out.1]
        have HB6 : Hid (Below B w w6) := Lib.hid (HB5.out.trans (hb.mono s5))
        have s6 : B ≤ w6.heap.size := by rw [← HBE.out]; exact HB6.out.size
        clear hb
        go_wp2_with fail
        have q7 := Whole.new w6 22 #[.slice a0 n0 c0]
        have b7 := HB6.out.alloc s6 (.cells #[.slice a0 n0 c0] 22)
        generalize w6.alloc (.cells #[.slice a0 n0 c0] 22) = w7 at *
        generalize w6.heap.size = P at *
        have hp := parts_one (S := fun _ => True) q7 trivial ((H0.out.below b7 (fun b _ h => h)).weak (fun _ _ _ => trivial))
        refine (sum_any hp (HR.out.below b7 (by omega)) (by simp; rw [H0.out.1]; omega) (by omega)).mono ?_
        rintro e w8 ⟨rfl, hb⟩
        rw [show [l0].flatten = l0 by simp]
        have HB8 : Hid (Below B w w8) := Lib.hid (b7.trans (hb.mono (by have := q7.lt; omega)))
        clear hb q7 b7 hp
        with_reducible generalize Sm.dig l0 = res at *
        go_wp2
        go_ret
        exact ⟨rfl, by rw [HBE.out]; exact HB8.out⟩
      · have e2 : decide ((i : Int) < (20 : Int)) = false := by simp; omega
        try have HD := Lib.hid dd2
        try clear dd2
        go_wp2_with (at_builtin; refine wpList_append_new rfl (.tmp 49) (.tmp 51) rfl B _ i vs rfl ?c1 wr.heap.size 22 [.slice a' n' c', .slice none 0 0] 2 2 rfl rfl HQ.out ?c2 ?c3 ?c4 ?_)
        case c1 => exact HO.out.alloc _
        case c2 => first | exact ⟨rfl, rfl⟩ | (intro u hu; simp at hu; rcases hu with hu | hu <;> (subst hu; rfl))
        case c3 => omega
        case c4 => first | omega | (simp; omega)
        intro v5 w5 hown hg
        have HO5 := Lib.hid hown
        have HB5 : Hid (Below B w w5) := Lib.hid ((HBL.out.alloc sw _).grown hg (by simp; omega) (fun k hk => (HO.out.lt k hk).1))
        clear hown hg
        obtain ⟨q5, cap5, rfl⟩ := own_form HO5.out
        have hp : Parts w5 (fun _ => True) q5 (i + 2) (ps ++ [r] ++ [[]]) := own_parts HO5.out (by have := HC.out.keep HB5.out; simpa using this) HF.out.2
        have HP := Lib.hid hp
        clear hp
        have s5 : B ≤ w5.heap.size := by rw [← HBE.out]; exact HB5.out.size
        go_wp2_with fail
        refine (sum_any HP.out (HR.out.below HB5.out (by omega)) (by rw [HF.out.1, H0.out.1]; omega) (by omega)).mono ?_
        rintro e w6 ⟨rfl, hb⟩
        rw [HF.out.1]
        have HB6 : Hid (Below B w w6) := Lib.hid (HB5.out.trans (hb.mono s5))
        have s6 : B ≤ w6.heap.size := by rw [← HBE.out]; exact HB6.out.size
        clear hb
        go_wp2_with fail
        have q7 := Whole.new w6 22 #[.slice a0 n0 c0]
        have b7 := HB6.out.alloc s6 (.cells #[.slice a0 n0 c0] 22)
        generalize w6.alloc (.cells #[.slice a0 n0 c0] 22) = w7 at *
        generalize w6.heap.size = P at *
        have hp := parts_one (S := fun _ => True) q7 trivial ((H0.out.below b7 (fun b _ h => h)).weak (fun _ _ _ => trivial))
        refine (sum_any hp (HR.out.below b7 (by omega)) (by simp; rw [H0.out.1]; omega) (by omega)).mono ?_
        rintro e w8 ⟨rfl, hb⟩
        rw [show [l0].flatten = l0 by simp]
        have HB8 : Hid (Below B w w8) := Lib.hid (b7.trans (hb.mono (by have := q7.lt; omega)))
        clear hb q7 b7 hp
        with_reducible generalize Sm.dig l0 = res at *
        go_wp2
        go_ret
        exact ⟨rfl, by rw [HBE.out]; exact HB8.out⟩
end Go.Proofs.YtndiojiphoomgaaDoor
