/-
  The walks of number and lay: eight bytes and a number.
-/
import Derived.Test.YtfecobkpdmjaeaaQa
import Derived.Test.YtfecobkpdmjaeaaZu
import Derived.Laws.BitsAllLaws
namespace Go.Proofs.Ytfecobkpdmjaeaa
open Go.RowKit
set_option linter.unusedVariables false
set_option linter.unusedSimpArgs false
set_option maxRecDepth 20000
theorem num_snoc (l : List Int) (x : Int) : Jl.num (l ++ [x]) = Jl.num l * 256 + x.toNat := by unfold Jl.num; rw [List.foldl_append]; rfl
theorem num_ge : ∀ (l : List Int) (a : Nat), Byt l → l.foldl (fun a x => a * 256 + x.toNat) a < (a + 1) * 256 ^ l.length := by
  intro l
  induction l with
  | nil => intro a _; simp
  | cons x l ih =>
    intro a h
    have hx := h x (by simp)
    have h1 := ih (a * 256 + x.toNat) (fun y hy => h y (by simp [hy]))
    rw [List.foldl_cons, List.length_cons, Nat.pow_succ]
    refine Nat.lt_of_lt_of_le h1 ?_
    rw [Nat.mul_comm (256 ^ _) 256, ← Nat.mul_assoc]
    exact Nat.mul_le_mul_right _ (by omega)
theorem num_lt {l : List Int} (h : Byt l) : Jl.num l < 256 ^ l.length := by
  have := num_ge l 0 h
  simpa [Jl.num] using this
theorem or_byte (m : Nat) (x : Int) (h0 : 0 ≤ x) (h1 : x < 256) (hm : m < 72057594037927936) : bits BinOp.or IntKind.u64 ((m : Int) * 256) x = (m : Int) * 256 + x := by
  obtain ⟨n, rfl⟩ := Int.eq_ofNat_of_zero_le h0
  have e : (m : Int) * 256 = ((m * 256 : Nat) : Int) := by omega
  rw [e, u64_or_nat (m * 256) n (by omega) (by omega), Nat.mul_comm m 256, ← Nat.two_pow_add_eq_or_of_lt (i := 8) (by omega) m]
  omega
theorem take_snocI (l : List Int) (k : Nat) (h : k < l.length) : l.take (k + 1) = l.take k ++ [l.getD k 0] := by
  rw [List.take_succ_eq_append_getElem h]; simp [List.getD, h]
set_option maxHeartbeats 4000000 in
theorem number_any {S : Nat → Prop} {a : Option Addr} {n c : Nat} {l : List Int} {w : World} (h : Txt w S a n c l) (hn : n ≤ 8) :
    Calls Try.prog 60 #[.slice a n c] w fun e w' => e = .returned (.int .u64 ((Jl.num l : Nat) : Int)) ∧ w = w' := by
  have H := Lib.hid h
  have hl : Hid (l.length = n) := Lib.hid h.1
  clear h
  go_enter Try.func60, Try.ntmps60
  go_wp2
  go_loop [3, 8] (fun v i => ∃ k : Nat, k ≤ n ∧ i = .int .i64 (k : Int) ∧ v = .int .u64 ((Jl.num (l.take k) : Nat) : Int)) (fun _ i => n - (intOf i).toNat)
  case atStart => exact ⟨0, Nat.zero_le _, rfl, rfl⟩
  case round =>
    obtain ⟨k, hk, rfl, rfl⟩ := hrel
    by_cases hlt : k < n
    · have q1 : (k : Int) < (n : Int) := by omega
      obtain ⟨b, off, rfl, _, _, hc⟩ := H.out.cell hlt
      obtain ⟨x, hx⟩ : ∃ x, l.getD k 0 = x := ⟨_, rfl⟩
      rw [hx] at hc
      have hb := H.out.byte k
      rw [hx] at hb
      obtain ⟨m, hm⟩ : ∃ m, Jl.num (l.take k) = m := ⟨_, rfl⟩
      rw [hm]
      have hmb : m < 72057594037927936 := by
        have := num_lt (byt_take H.out.2.2.1 k)
        rw [hm] at this
        refine Nat.lt_of_lt_of_le this ?_
        have : (l.take k).length ≤ 7 := by rw [List.length_take]; omega
        exact Nat.pow_le_pow_right (by omega) this
      obtain ⟨hb0, hb1⟩ := hb
      have HM := Lib.hid (And.intro hm hx)
      clear hx hm
      have ho := or_byte m x hb0 hb1 hmb
      go_wp2
      go_round
      case rel =>
        refine ⟨k + 1, by omega, by go_num, ?_⟩
        have e : Jl.num (l.take (k + 1)) = m * 256 + x.toNat := by rw [take_snocI l k (by have := hl.out; omega), num_snoc, HM.out.1, HM.out.2]
        rw [e]
        congr 1
        omega
      case measure => simp [intOf]; omega
    · have q1 : ¬ (k : Int) < (n : Int) := by omega
      have e : l.take k = l := List.take_of_length_le (by have := hl.out; omega)
      rw [e]
      clear e
      go_wp2
      go_ret
      exact ⟨rfl, rfl⟩
def big8 (l : Nat) : List Int := Jl.big l
/-- n over the last of k bytes, the highest one first. -/
def low : Nat → Nat → List Int
  | 0, _ => []
  | k + 1, n => low k (n / 256) ++ [((n % 256 : Nat) : Int)]
theorem low_len (k n : Nat) : (low k n).length = k := by
  induction k generalizing n with
  | zero => rfl
  | succ k ih => simp [low, ih]
theorem low_eight (n : Nat) : low 8 n = Jl.big n := by
  simp only [low, Jl.big, Nat.div_div_eq_div_mul, List.nil_append, List.cons_append]
theorem low_two (n : Nat) : low 2 n = [((n / 256 % 256 : Nat) : Int), ((n % 256 : Nat) : Int)] := rfl
theorem low_cons (k n : Nat) : low (k + 1) n = ((n / 256 ^ k % 256 : Nat) : Int) :: low k n := by
  induction k generalizing n with
  | zero => simp [low]
  | succ k ih =>
    rw [low, ih, low, List.cons_append, Nat.div_div_eq_div_mul, Nat.pow_succ, Nat.mul_comm 256]
theorem low_byt (k n : Nat) : Byt (low k n) := by
  induction k generalizing n with
  | zero => exact byt_nil
  | succ k ih => exact byt_append (ih _) (byt_cons (by omega) (by omega) byt_nil)
theorem only_set (w : World) (g i : Nat) (u : Value) : Only [g] w (w.setCell ⟨g, i, none⟩ u) :=
  ⟨rfl, rfl, rfl, by simp, fun j hj hn => Below.heap_setCell w ⟨g, i, none⟩ u j (by simpa using hn)⟩
theorem splice_down (cs : List Value) (off k j n : Nat) (hf : off + k ≤ cs.length) (hj : j < k) :
    (splice cs (off + k - j) (nums (low j n))).toArray.setIfInBounds (off + (k - 1 - j)) (.int .u8 ((n / 256 ^ j % 256 : Nat) : Int)) = (splice cs (off + k - (j + 1)) (nums (low (j + 1) n))).toArray := by
  rw [List.setIfInBounds_toArray]
  congr 1
  have e : off + k - (j + 1) = off + (k - 1 - j) := by omega
  have e2 : off + k - j = off + (k - 1 - j) + 1 := by omega
  rw [e, e2]
  generalize hq : off + (k - 1 - j) = q at *
  have hqc : q < cs.length := by omega
  have h1 : (nums (low j n)).length = j := by rw [nums_len, low_len]
  have h2 : (nums (low (j + 1) n)).length = j + 1 := by rw [nums_len, low_len]
  unfold splice
  rw [h1, h2, List.take_succ_eq_append_getElem hqc, List.append_assoc, List.set_append_right _ _ (by simp; omega)]
  have e3 : q - (cs.take q).length = 0 := by simp; omega
  rw [e3, low_cons]
  simp only [List.cons_append, List.nil_append, List.set_cons_zero]
  show _ = List.take q cs ++ (Value.int IntKind.u8 _ :: nums (low j n) ++ List.drop (q + (j + 1)) cs)
  rw [show q + 1 + j = q + (j + 1) by omega]
  rfl
set_option maxHeartbeats 4000000 in
/-- n is laid over k cells of a block that is known. -/
theorem jlay_any {g off k c n : Nat} {t : TypeId} {cs : List Value} {w : World} (h : Whole w g t cs.toArray) (hf : off + k ≤ cs.length) (hk : k ≤ 64) (hn : n < 18446744073709551616) :
    Calls Try.prog 56 #[.slice (some ⟨g, off, none⟩) k c, .int .u64 (n : Int)] w fun e w' => e = .returned (.tuple #[]) ∧ Whole w' g t (splice cs off (nums (low k n))).toArray ∧ Only [g] w w' := by
  have H0 : Hid (Whole w g t (splice cs (off + k - 0) (nums (low 0 n))).toArray ∧ Only [g] w w) := Lib.hid ⟨by
    have e : splice cs (off + k - 0) (nums (low 0 n)) = cs := by unfold splice; simp [low, nums]
    rw [e]; exact h, Only.refl _ _⟩
  have hn0 : n / 256 ^ 0 = n := by simp
  have HF := Lib.hid hf
  obtain ⟨m, hm⟩ : ∃ m, n / 256 ^ 0 = m := ⟨_, rfl⟩
  rw [hn0] at hm
  have e0 : (n : Int) = ((n / 256 ^ 0 : Nat) : Int) := by rw [hn0]
  clear h hf hn0 hm
  rw [e0]
  clear e0
  go_enter Try.func56, Try.ntmps56
  go_wp2
  go_loopw [1, 4] (fun v i wr => ∃ j : Nat, j ≤ k ∧ i = .int .i64 ((k : Int) - 1 - (j : Int)) ∧ v = .int .u64 ((n / 256 ^ j : Nat) : Int) ∧ Hid (Whole wr g t (splice cs (off + k - j) (nums (low j n))).toArray ∧ Only [g] w wr)) (fun _ i _ => (intOf i + 1).toNat)
  case atStart => exact ⟨0, Nat.zero_le _, by go_num, rfl, H0⟩
  case round =>
    clear H0
    obtain ⟨j, hj, rfl, rfl, HB⟩ := hrel
    by_cases hlt : j < k
    · obtain ⟨q, hq⟩ : ∃ q : Nat, q = k - 1 - j := ⟨_, rfl⟩
      have e1 : (k : Int) - 1 - (j : Int) = (q : Int) := by omega
      rw [e1]
      have hlen : (splice cs (off + k - j) (nums (low j n))).length = cs.length := by
        unfold splice
        have := HF.out
        simp [nums_len, low_len]
        omega
      have hqk : q < k := by omega
      obtain ⟨u, hu⟩ : ∃ u, wr.cell? ⟨g, off + q, none⟩ = some u := by
        rw [HB.out.1.cell]
        exact ⟨_, Array.getElem?_eq_getElem (by have := HF.out; simp [hlen]; omega)⟩
      have hfz := HB.out.1.frozen (off + q)
      obtain ⟨m, hm⟩ : ∃ m, n / 256 ^ j = m := ⟨_, rfl⟩
      have hmn : m ≤ n := by rw [← hm]; exact Nat.div_le_self _ _
      rw [hm]
      have HQ := Lib.hid (And.intro hq (And.intro hm e1))
      clear hq hm e1 hlen
      have q1 : (q : Int) < (k : Int) := by omega
      have q0 : (0 : Int) ≤ (q : Int) := by omega
      go_wp2
      go_roundw
      case rel =>
        have hq := HQ.out.1
        have hm := HQ.out.2.1
        refine ⟨j + 1, by omega, by go_num, ?_, Lib.hid ⟨?_, HB.out.2.trans (only_set _ _ _ _)⟩⟩
        · rw [Nat.pow_succ, ← Nat.div_div_eq_div_mul, hm]
          rfl
        · have hs := HB.out.1.set (off + q) (.int .u8 ((m : Int) % 256))
          have hd := splice_down cs off k j n HF.out hlt
          rw [← hq, hm] at hd
          have e : ((m % 256 : Nat) : Int) = (m : Int) % 256 := by omega
          rw [e] at hd
          rw [hd] at hs
          exact hs
      case measure => simp [intOf]
    · obtain rfl : j = k := by omega
      have e1 : (j : Int) - 1 - (j : Int) = -1 := by omega
      have HE : Hid (Whole wr g t (splice cs off (nums (low j n))).toArray ∧ Only [g] w wr) := Lib.hid (by have := HB.out; rw [show off + j - j = off by omega] at this; exact this)
      rw [e1]
      clear e1 HB
      go_wp2
      go_end0
      exact ⟨rfl, HE.out⟩
end Go.Proofs.Ytfecobkpdmjaeaa
