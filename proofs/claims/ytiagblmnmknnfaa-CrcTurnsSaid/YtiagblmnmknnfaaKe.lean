/-
  The walks of CrcTells and CrcGoes.
-/
import Derived.Test.YtiagblmnmknnfaaKd
import Derived.Deep.QuietTactic
namespace Go.Proofs.Ytiagblmnmknnfaa
open Go.RowKit
theorem wpList_append_txtG {P : Program} (w : World) {ops : Array Oper} {rest : List Oper} {o : Oper} {a : Act} {Q : Exit → Act → World → Prop} (hgd : Region.wanted o (yielded ops a.tmps) = true) (s x : Operand) (t : TypeId)
    (ho : o.op = .call { callee := .builtin .append, args := #[s, x], argTypes := #[t, t] })
    (base : Nat) (e : TypeId) (i : TypeInfo) (z : Value) (bytes : Nat) (ht : P.underlying t = some (.slice e)) (hi : P.info? e = some i) (hz : i.zero = some z)
    (hsize : i.size = 1) (hby : i.bytes = bytes) (hzs : z.cells.size = 1)
    (v : Value) (n : Nat) (xs : List Value) (hs : a.eval s = v) (hown : w.ownsRow base e 1 v n xs)
    (S : Nat → Prop) (A : Option Addr) (m c : Nat) (l : List Int) (hx : a.eval x = .slice A m c) (hr : Txt w S A m c l)
    (h63 : n + m ≤ maxLen) (hbytes : (n + m) * bytes ≤ 140737488355328) (hbase : base ≤ w.heap.size)
    (h : ∀ v' w', w'.ownsRow base e 1 v' (n + m) (xs ++ nums l) → w.grownBy w' v.ownBlock → (v'.ownBlock = v.ownBlock ∨ v'.ownBlock = some w.heap.size) → wpList P ops Q rest (a.put o.dst v') w') : wpList P ops Q (o :: rest) a w :=
  wpList_step fun _ hK => by rw [if_pos hgd]; exact wp_append_txt w s x t ho base e i z bytes ht hi hz hsize hby hzs v n xs hs hown S A m c l hx hr h63 hbytes hbase fun v' w' h2 h3 h4 => hK _ _ (h v' w' h2 h3 h4)
theorem u8_infos : ∃ i, Try.prog.info? 5 = some i ∧ i.zero = some (.int .u8 0) ∧ i.size = 1 ∧ i.bytes = 1 := by
  have := u8_info
  cases hq : Try.prog.info? 5 with
  | none => rw [hq] at this; cases this
  | some i => rw [hq] at this; simp only [Option.map_some, Option.some.injEq, Prod.mk.injEq] at this; exact ⟨i, rfl, this.1, this.2.1, this.2.2⟩
theorem own_form {w : World} {base e size n : Nat} {v : Value} {xs : List Value} (h : w.ownsRow base e size v n xs) : ∃ q cap, v = .slice q n cap := by
  rcases h.2 with ⟨rfl, rfl⟩ | ⟨g, cap, cur, rfl, _⟩
  · exact ⟨_, _, rfl⟩
  · exact ⟨_, _, rfl⟩
set_option maxHeartbeats 1000000 in
theorem tells_walk (s : BitVec 32) (a0 : Option Addr) (n0 c0 : Nat) (l0 : List Int) (w : World) (h0 : Txt w (· < w.heap.size) a0 n0 c0 l0) :
    Calls Try.prog 3 #[.int .u32 (num s), .slice a0 n0 c0] w fun e w' => e = .returned (.bool true) ∧ Below w.heap.size w w' := by
  have H0 := Lib.hid h0
  clear h0
  have hz : (0 : Int) = num 0#32 := rfl
  have HZ := Lib.hid hz
  clear hz
  by_cases g1 : 1000 < n0
  · have d1 : decide ((1000 : Int) < (n0 : Int)) = true := by simp; omega
    go_enter Try.func3, Try.ntmps3
    go_wp2_with (go_at_call 9; refine (awake_any _).mono ?_; rintro e w' ⟨rfl, hb⟩; have HB := Lib.hid hb; clear hb)
    go_ret
    exact ⟨rfl, HB.out⟩
  have d1 : decide ((1000 : Int) < (n0 : Int)) = false := by simp; omega
  go_enter Try.func3, Try.ntmps3
  go_wp2_with fail
  refine (awake_any w).mono ?_
  rintro e w1 ⟨rfl, hb⟩
  have HB := Lib.hid hb
  clear hb
  go_wp2_with fail
  refine (more_any s (H0.out.below HB.out (fun _ _ h => h)) (by omega)).mono ?_
  rintro e w2 ⟨rfl, hb⟩
  have HB2 : Hid (Below w.heap.size w w2) := Lib.hid (HB.out.trans (hb.mono HB.out.size))
  clear hb HB
  go_wp2_with fail
  refine (rmore_any s (H0.out.below HB2.out (fun _ _ h => h)) (by omega)).mono ?_
  rintro e w3 ⟨rfl, rfl⟩
  go_wp2_with fail
  refine (sum_any (H0.out.below HB2.out (fun _ _ h => h)) (by omega)).mono ?_
  rintro e w4 ⟨rfl, hb⟩
  have HB4 : Hid (Below w.heap.size w w4) := Lib.hid (HB2.out.trans (hb.mono HB2.out.size))
  clear hb HB2
  go_wp2_with fail
  rw [show (0 : Int) = num 0#32 from rfl]
  refine (rmore_any 0#32 (H0.out.below HB4.out (fun _ _ h => h)) (by omega)).mono ?_
  rintro e w5 ⟨rfl, rfl⟩
  go_wp2
  go_ret
  exact ⟨rfl, HB4.out⟩
set_option maxHeartbeats 1000000 in
theorem goes_walk (s : BitVec 32) (a0 : Option Addr) (n0 c0 : Nat) (l0 : List Int) (a1 : Option Addr) (n1 c1 : Nat) (l1 : List Int) (w : World) (h0 : Txt w (· < w.heap.size) a0 n0 c0 l0) (h1 : Txt w (· < w.heap.size) a1 n1 c1 l1) :
    Calls Try.prog 4 #[.int .u32 (num s), .slice a0 n0 c0, .slice a1 n1 c1] w fun e w' => e = .returned (.bool true) ∧ Below w.heap.size w w' := by
  obtain ⟨i0, HI0⟩ := u8_infos
  have HI := Lib.hid HI0
  have H0 := Lib.hid h0
  have H1 := Lib.hid h1
  clear h0 h1 HI0
  by_cases g1 : 1000 < n0
  · have d1 : decide ((1000 : Int) < (n0 : Int)) = true := by simp; omega
    go_enter Try.func4, Try.ntmps4
    go_wp2_with (go_at_call 9; refine (awake_any _).mono ?_; rintro e w' ⟨rfl, hb⟩; have HB := Lib.hid hb; clear hb)
    go_ret
    exact ⟨rfl, HB.out⟩
  have d1 : decide ((1000 : Int) < (n0 : Int)) = false := by simp; omega
  by_cases g2 : 1000 < n1
  · have d2 : decide ((1000 : Int) < (n1 : Int)) = true := by simp; omega
    go_enter Try.func4, Try.ntmps4
    go_wp2_with (go_at_call 9; refine (awake_any _).mono ?_; rintro e w' ⟨rfl, hb⟩; have HB := Lib.hid hb; clear hb)
    go_ret
    exact ⟨rfl, HB.out⟩
  have d2 : decide ((1000 : Int) < (n1 : Int)) = false := by simp; omega
  go_enter Try.func4, Try.ntmps4
  go_wp2_with fail
  refine (awake_any w).mono ?_
  rintro e w1 ⟨rfl, hb⟩
  have HB := Lib.hid hb
  clear hb
  go_wp2_with fail
  refine (more_any s (H0.out.below HB.out (fun _ _ h => h)) (by omega)).mono ?_
  rintro e w2 ⟨rfl, hb⟩
  have HB2 : Hid (Below w.heap.size w w2) := Lib.hid (HB.out.trans (hb.mono HB.out.size))
  clear hb HB
  go_wp2_with fail
  refine (more_any _ (H1.out.below HB2.out (fun _ _ h => h)) (by omega)).mono ?_
  rintro e w3 ⟨rfl, hb⟩
  rw [Cm.more_append]
  have HB3 : Hid (Below w.heap.size w w3) := Lib.hid (HB2.out.trans (hb.mono HB2.out.size))
  clear hb HB2
  have s3 := HB3.out.size
  generalize hBe : w.heap.size = B at *
  have HBE := Lib.hid hBe
  clear hBe
  go_wp2_with (at_builtin; refine wpList_append_txtG _ (by rfl) (.tmp 26) (.tmp 27) 23 rfl w3.heap.size 5 i0 (.int .u8 0) 1 Try.underlying23 HI.out.1 HI.out.2.1 HI.out.2.2.1 HI.out.2.2.2 rfl _ 0 [] rfl ?c1 (· < B) a0 n0 c0 l0 rfl ?c2 ?c3 ?c4 ?c5 ?_)
  case c1 => exact World.ownsRow_lit w3 #[] 0 (Nat.le_refl _) (by unfold maxLen; omega) rfl
  case c2 => exact (H0.out.below HB3.out (fun _ _ h => h)).keep (by simp) fun b hb _ => Below.heap_alloc _ _ _ hb
  case c3 => unfold maxLen; omega
  case c4 => omega
  case c5 => simp
  intro v4 w4 hown hg _
  have HO := Lib.hid hown
  have HB4 : Hid (Below B w w4) := Lib.hid ((HB3.out.alloc s3 _).grown hg (by simp; omega) (fun k hk => by simp [Value.ownBlock] at hk; omega))
  have s4 : w3.heap.size ≤ w4.heap.size := by have := hg.size; simp at this; omega
  clear hown hg
  obtain ⟨q4, cap4, rfl⟩ : ∃ q cap, v4 = .slice q n0 cap := own_form HO.out
  go_wp2_with (at_builtin; refine wpList_append_txtG _ (by rfl) (.tmp 28) (.tmp 29) 23 rfl w3.heap.size 5 i0 (.int .u8 0) 1 Try.underlying23 HI.out.1 HI.out.2.1 HI.out.2.2.1 HI.out.2.2.2 rfl _ n0 (nums l0) rfl ?c1 (· < B) a1 n1 c1 l1 rfl ?c2 ?c3 ?c4 ?c5 ?_)
  case c1 => exact HO.out
  case c2 => exact H1.out.below HB4.out (fun _ _ h => h)
  case c3 => unfold maxLen; omega
  case c4 => omega
  case c5 => exact s4
  intro v5 w5 hown hg _
  have HO5 : Hid (w5.ownsRow w3.heap.size 5 1 v5 (n0 + n1) (nums (l0 ++ l1))) := Lib.hid (by rw [nums_append]; exact hown)
  have HB5 : Hid (Below B w w5) := Lib.hid (HB4.out.grown hg (by omega) (fun k hk => by
    rcases HO.out.2 with ⟨h, _⟩ | ⟨g, cap, cur, h, hb, _⟩
    · injection h with h _; subst h; simp [Value.ownBlock] at hk
    · injection h with h _; subst h; simp [Value.ownBlock] at hk; omega))
  clear hown hg HO
  obtain ⟨q5, cap5, rfl⟩ : ∃ q cap, v5 = .slice q (n0 + n1) cap := own_form HO5.out
  have HT : Hid (Txt w5 (fun _ => True) q5 (n0 + n1) cap5 (l0 ++ l1)) := Lib.hid (by
    obtain ⟨a, c, e, ht⟩ := Txt.own HO5.out (byt_append H0.out.2.2.1 H1.out.2.2.1)
    injection e with e1 _ e3
    subst e1 e3
    exact ht.weak fun _ _ _ => trivial)
  have s5 : B ≤ w5.heap.size := by have := HB5.out.size; have := HBE.out; omega
  go_wp2_with fail
  refine (more_any s HT.out (by omega)).mono ?_
  rintro e w6 ⟨rfl, hb⟩
  have HB6 : Hid (Below B w w6) := Lib.hid (HB5.out.trans (hb.mono s5))
  clear hb HB5
  go_wp2
  go_ret
  exact ⟨rfl, by rw [HBE.out]; exact HB6.out⟩
end Go.Proofs.Ytiagblmnmknnfaa
