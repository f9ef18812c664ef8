/-
  The walks of the document's Who, Aborted, Next, Best, Manifest.
-/
import Derived.Test.YtdfmfjahnnifnaaFe
namespace Go.Proofs.Ytdfmfjahnnifnaa
set_option maxRecDepth 20000
set_option linter.unusedSimpArgs false
set_option linter.unusedVariables false
open Go.RowKit
def i64s (l : List Int) : List Value := l.map (Value.int .i64)
theorem i64s_append (a b : List Int) : i64s (a ++ b) = i64s a ++ i64s b := by simp [i64s]
theorem i64_info : (Try.prog.info? 3).map (fun i => (i.zero, i.size, i.bytes)) = some (some (.int .i64 0), 1, 8) := by kernel_rfl
theorem row_formF {w : World} {base e size n : Nat} {v : Value} {xs : List Value} (h : w.ownsRow base e size v n xs) : ∃ q cap, v = .slice q n cap := by
  rcases h.2 with ⟨rfl, h0⟩ | ⟨g', cap, _, rfl, _⟩
  · exact ⟨_, _, by rw [h0]⟩
  · exact ⟨_, _, rfl⟩
/-- append of one value of one cell, that lies in a new block. -/
theorem wpList_append_oneF {w : World} {ops : Array Oper} {rest : List Oper} {o : Oper} {a : Act} {Q : Exit → Act → World → Prop} (hgd : o.guard = none) (s x : Operand) (T e : TypeId) (z : Value) (by8 : Nat)
    (ho : o.op = .call { callee := .builtin .append, args := #[s, x], argTypes := #[T, T] }) (hT : Try.prog.underlying T = some (.slice e)) (hinfo : (Try.prog.info? e).map (fun i => (i.zero, i.size, i.bytes)) = some (some z, 1, by8)) (hzs : z.cells.size = 1) (h8 : by8 ≤ 8)
    (base : Nat) (v : Value) (n : Nat) (xs : List Value) (hs : a.eval s = v) (hown : w.ownsRow base e 1 v n xs)
    (g : Nat) (T' : TypeId) (u : Value) (hx : a.eval x = .slice (some ⟨g, 0, none⟩) 1 1) (hg : Whole w g T' #[u]) (h1 : u.oneCell' = true)
    (hn : n ≤ 1000000) (hbase : base ≤ w.heap.size)
    (h : ∀ v' w', w'.ownsRow base e 1 v' (n + 1) (xs ++ [u]) → w.grownBy w' v.ownBlock → wpList Try.prog ops Q rest (a.put o.dst v') w') : wpList Try.prog ops Q (o :: rest) a w := by
  obtain ⟨i0, hi0, hz0, hz1, hz2⟩ := info_parts hinfo
  refine wpList_plain hgd fun _ hK => ?_
  have hb : (n + 1) * by8 ≤ 140737488355328 := Nat.le_trans (Nat.mul_le_mul (show n + 1 ≤ 1000001 by omega) h8) (by decide)
  obtain ⟨v', w', hrun, h2, h3, _, h5⟩ := run_append_own_at (P := Try.prog) w base T o.type e i0 z 1 by8 hT hi0 hz0 hz1 hz2 hzs (by omega) v n xs hown ⟨g, 0, none⟩ 1 1 [u] (by simp) (fun j t hu => by rw [Addr.add_lit, Nat.zero_add, hg.cell, List.getElem?_toArray]; exact hu) (by intro t ht; simp at ht; rw [ht]; exact h1) (by unfold maxLen; omega) hb hbase
  unfold Oper.wp execOp
  simp only [ho, resolve, invoke, builtin, Sem.run_bind, Sem.run_pure, Result.andThen_ok, List.map_toArray, List.map_cons, List.map_nil, hs, hx, hrun]
  exact hK _ _ (h v' w' h2 h3)
theorem FS_take (R : List Fm) (j : Nat) : FS (R.take j) = (FS R).take j := by simp [FS]
theorem take_snocF (l : List Ft.Fact) {j : Nat} (h : j < l.length) : l.take (j + 1) = l.take j ++ [l.getD j Ft.nought] := by
  rw [List.take_add_one]
  simp [h]
theorem who_snoc (l : List Ft.Fact) (k e : Int) {j : Nat} (h : j < l.length) : La.who (l.take (j + 1)) k e = if La.whose k e (l.getD j Ft.nought) then La.who (l.take j) k e ++ [(l.getD j Ft.nought).node] else La.who (l.take j) k e := by
  rw [take_snocF l h]
  unfold La.who
  rw [List.filter_append, List.map_append]
  generalize l.getD j Ft.nought = g
  by_cases hw : La.whose k e g = true
  · rw [if_pos hw]; simp [List.filter_cons, hw]
  · rw [if_neg hw]; simp [List.filter_cons, hw]
theorem who_len (l : List Ft.Fact) (k e : Int) : (La.who l k e).length ≤ l.length := by
  unfold La.who
  rw [List.length_map]
  exact List.length_filter_le _ _
set_option maxHeartbeats 2000000 in
theorem rwho_any {w : World} {S D : Nat → Prop} {a : Option Addr} {n c : Nat} {R : List Fm} (h : Fts w S D a n R) (hn : n ≤ 100000) (k e : Int) :
    Calls Try.prog 22 #[.slice a n c, .int .i64 k, .int .i64 e] w fun r w' => ∃ q m cap, m = (La.who (FS R) k e).length ∧ r = .returned (.slice q m cap) ∧ w'.ownsRow w.heap.size 3 1 (.slice q m cap) m (i64s (La.who (FS R) k e)) ∧ Below w.heap.size w w' := by
  have H := Lib.hid h.old
  have HLN := Lib.hid (show (FS R).length = n by rw [FS_len, h.1])
  clear h
  go_enter Try.func22, Try.ntmps22
  go_wp2
  generalize hBe : w.heap.size = B at *
  have HBE := Lib.hid hBe
  clear hBe
  go_loopw [7, 8] (fun v i wr => ∃ (j m : Nat) (q : Option Addr) (cap : Nat), j ≤ n ∧ m ≤ j ∧ v = .slice q m cap ∧ i = .int .i64 (j : Int) ∧ Hid (m = (La.who ((FS R).take j) k e).length ∧ wr.ownsRow B 3 1 (.slice q m cap) m (i64s (La.who ((FS R).take j) k e)) ∧ Below B w wr)) (fun _ i _ => n - (intOf i).toNat)
  case atStart => exact ⟨0, 0, none, 0, Nat.zero_le _, Nat.le_refl _, rfl, rfl, Lib.hid ⟨rfl, World.ownsRow_nil _ _ _ _, Below.refl _ _⟩⟩
  case round =>
    obtain ⟨j, m, q, cap, hj, hm, rfl, rfl, HJ⟩ := hrel
    have sj : B ≤ wr.heap.size := Nat.le_trans (by rw [HBE.out]; exact Nat.le_refl _) HJ.out.2.2.size
    by_cases hlt : j < n
    · obtain ⟨b, off, rfl, _, _, hrg, _⟩ := (H.out.below HJ.out.2.2 (fun _ _ h => h) (fun _ _ h => h)).at_ hlt
      obtain ⟨x, hx⟩ : ∃ x, R.getD j d0 = x := ⟨_, rfl⟩
      rw [hx] at hrg
      have hw := who_snoc (FS R) k e (j := j) (by rw [HLN.out]; exact hlt)
      rw [FS_get, hx] at hw
      obtain ⟨⟨xk, xe, xn, xm⟩, xM⟩ := x
      have c0 : wr.cell? ⟨b, off + j * 38, none⟩ = some (.int .i64 xk) := range_c0 hrg
      have c1 : wr.cell? ⟨b, off + j * 38 + 1, none⟩ = some (.int .i64 xe) := range_c1 hrg
      have c2 : wr.cell? ⟨b, off + j * 38 + 2, none⟩ = some (.int .i64 xn) := range_c2 hrg
      clear hrg hx
      by_cases z0 : xk = k
      case neg =>
        have d0 : (xk == k) = false := by simp [z0]
        have HW : Hid (La.who ((FS R).take (j + 1)) k e = La.who ((FS R).take j) k e) := Lib.hid (by rw [hw, if_neg]; unfold La.whose; simp [z0])
        clear z0 hw
        go_wp2
        exact ⟨⟨j + 1, m, q, cap, by omega, by omega, rfl, by go_num, Lib.hid (by rw [HW.out]; exact HJ.out)⟩, by simp [intOf]; omega⟩
      have q0 : (xk == k) = true := by simp [z0]
      by_cases z1 : xe = e
      case neg =>
        have d0 : (xe == e) = false := by simp [z1]
        have HW : Hid (La.who ((FS R).take (j + 1)) k e = La.who ((FS R).take j) k e) := Lib.hid (by rw [hw, if_neg]; unfold La.whose; simp [z1])
        clear z0 z1 hw
        go_wp2
        exact ⟨⟨j + 1, m, q, cap, by omega, by omega, rfl, by go_num, Lib.hid (by rw [HW.out]; exact HJ.out)⟩, by simp [intOf]; omega⟩
      have q1 : (xe == e) = true := by simp [z1]
      have HW : Hid (La.who ((FS R).take (j + 1)) k e = La.who ((FS R).take j) k e ++ [xn]) := Lib.hid (by rw [hw, if_pos]; unfold La.whose; simp [z0, z1])
      clear z0 z1 hw
      go_wp2_with (at_builtin; refine wpList_append_oneF rfl (.tmp 31) (.tmp 37) 39 3 (.int .i64 0) 8 rfl Try.underlying39 i64_info rfl (by omega) B _ m (i64s (La.who ((FS R).take j) k e)) rfl (HJ.out.2.1.alloc _) wr.heap.size 3 (.int .i64 xn) rfl (Whole.new _ _ _) rfl (by omega) (by simp; omega) ?_)
      intro v5 w5 hown hg
      have HO5 := Lib.hid hown
      have HB5 : Hid (Below B w w5) := Lib.hid ((HJ.out.2.2.alloc sj _).grown hg (by simp; omega) (fun k hk => (HJ.out.2.1.lt k hk).1))
      clear hown hg
      obtain ⟨q5, cap5, rfl⟩ := row_formF HO5.out
      go_wp2
      exact ⟨⟨j + 1, m + 1, q5, cap5, by omega, by omega, rfl, by go_num, Lib.hid ⟨by rw [HW.out, List.length_append, ← HJ.out.1]; rfl, by rw [HW.out, i64s_append]; exact HO5.out, HB5.out⟩⟩, by simp [intOf]; omega⟩
    · obtain rfl : j = n := by omega
      have HE : Hid ((FS R).take j = FS R) := Lib.hid (List.take_of_length_le (by rw [HLN.out]; exact Nat.le_refl _))
      go_wp2
      go_ret
      exact ⟨q, m, cap, by rw [← HE.out]; exact HJ.out.1, rfl, by rw [HBE.out, ← HE.out]; exact HJ.out.2.1, by rw [HBE.out]; exact HJ.out.2.2⟩
end Go.Proofs.Ytdfmfjahnnifnaa
