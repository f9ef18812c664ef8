/-
  The walks of package code's Reader: what is taken off the rest, numbers.
-/
import Derived.Test.YtkmkccdihoaefaaWt
import Derived.Defers
import Derived.Recover
namespace Go.Proofs.Ytkmkccdihoaefaa
open Go.RowKit

/-- The reader at block g has the rest l, and gave up or not. -/
def Rd (w : World) (g : Nat) (l : List Int) (gave : Bool) : Prop := ∃ a n c, Whole w g 69 #[.slice a n c, .bool gave] ∧ Txt w (· < g) a n c l

/-- What a panic of must bears. -/
def lost : List PanicEntry := [{ v := .iface 32 (.int .i64 20), recovered := false }]

theorem must_ok (w : World) : Calls Try.prog 38 #[.bool true] w fun e w' => e = .returned (.tuple #[]) ∧ w = w' := by
  go_enter Try.func38, Try.ntmps38
  go_wp2
  go_end0
  exact ⟨rfl, rfl⟩
theorem must_no (w : World) : Calls Try.prog 38 #[.bool false] w fun e w' => e = .panicked lost ∧ w = w' := by
  go_enter Try.func38, Try.ntmps38
  go_wp2
  exact ⟨rfl, rfl, rfl⟩

/-- k bytes were taken off the rest l, that lies in a block of S. -/
def TookS (S : Nat → Prop) (w : World) (g : Nat) (l : List Int) (gave : Bool) (k : Nat) (e : Ending) (w' : World) : Prop :=
  ∃ a c a' n' c', e = .returned (.slice a k c) ∧ Txt w' S a k c (l.take k) ∧ Whole w' g 69 #[.slice a' n' c', .bool gave] ∧ Txt w' S a' n' c' (l.drop k) ∧ w.grownBy w' (some g)
/-- k bytes were taken off the rest l. -/
def Took (w : World) (g : Nat) (l : List Int) (gave : Bool) (k : Nat) (e : Ending) (w' : World) : Prop :=
  ∃ a c, e = .returned (.slice a k c) ∧ Txt w' (· < g) a k c (l.take k) ∧ Rd w' g (l.drop k) gave ∧ w.grownBy w' (some g)
theorem grown_set (w : World) (g i : Nat) (u : Value) : w.grownBy (w.setCell ⟨g, i, none⟩ u) (some g) :=
  ⟨rfl, rfl, rfl, by simp [World.setCell], fun k _ hk => Below.heap_setCell w ⟨g, i, none⟩ u k (fun e => hk (by rw [e]))⟩
theorem took_end {S : Nat → Prop} {w : World} {g : Nat} {l : List Int} {gave : Bool} {a A' : Option Addr} {n c k : Nat} (hS : ∀ b, S b → b ≠ g) (hw : Whole w g 69 #[.slice a n c, .bool gave]) (ht : Txt w S a n c l) (hk : k ≤ n)
    (hA : A' = if c = k then a else a.map (·.add k)) : TookS S w g l gave k (.returned (.slice a k c)) (w.setCell ⟨g, 0, none⟩ (.slice A' (n - k) (c - k))) := by
  have hg := grown_set w g 0 (.slice A' (n - k) (c - k))
  have ht' := ht.grown hg (fun b _ hb => by simpa using hS b hb)
  refine ⟨a, c, A', n - k, c - k, rfl, ht'.take k hk, hw.set 0 _, ?_, hg⟩
  rw [hA]
  rw [hA] at ht'
  exact ht'.drop k hk

set_option maxHeartbeats 400000 in
theorem take_okS {S : Nat → Prop} {w : World} {g : Nat} {l : List Int} {gave : Bool} {a : Option Addr} {n c : Nat} (k : Nat) (hS : ∀ b, S b → b ≠ g) (hw : Whole w g 69 #[.slice a n c, .bool gave]) (ht : Txt w S a n c l) (hk : k ≤ l.length) :
    Calls Try.prog 42 #[.pointer (some ⟨g, 0, none⟩), .int .i64 k] w (TookS S w g l gave k) := by
  have hn := ht.1
  have hc := ht.2.1
  rw [hn] at hk
  have c0 := hw.cell 0
  have f0 := hw.frozen 0
  simp only [List.getElem?_toArray, List.getElem?_cons_zero] at c0
  have HW := Lib.hid hw
  have HT := Lib.hid ht
  have HS := Lib.hid hS
  clear hw ht hn hS
  have d1 : decide ((k : Int) ≤ (n : Int)) = true := by simp; omega
  have i1 : (k : Int) ≤ (c : Int) := by omega
  by_cases hck : c = k
  · have HE := Lib.hid (took_end (A' := a) HS.out HW.out HT.out hk (by rw [if_pos hck]))
    subst hck
    rw [Nat.sub_self, show n - c = 0 by omega] at HE
    go_enter Try.func42, Try.ntmps42
    go_wp2_with (go_at_call 38; refine (must_ok _).mono ?_; rintro e w' ⟨rfl, rfl⟩)
    go_ret
    exact HE.out
  · have HE := Lib.hid (took_end HS.out HW.out HT.out hk (by rw [if_neg hck]))
    go_enter Try.func42, Try.ntmps42
    go_wp2_with (go_at_call 38; refine (must_ok _).mono ?_; rintro e w' ⟨rfl, rfl⟩)
    go_ret
    exact HE.out
theorem take_ok {w : World} {g : Nat} {l : List Int} {gave : Bool} (k : Nat) (h : Rd w g l gave) (hk : k ≤ l.length) :
    Calls Try.prog 42 #[.pointer (some ⟨g, 0, none⟩), .int .i64 k] w (Took w g l gave k) := by
  obtain ⟨a, n, c, hw, ht⟩ := h
  refine (take_okS k (fun _ h => Nat.ne_of_lt h) hw ht hk).mono ?_
  rintro e w' ⟨a1, c1, a2, n2, c2, he, h1, h2, h3, h4⟩
  exact ⟨a1, c1, he, h1, ⟨a2, n2, c2, h2, h3⟩, h4⟩
set_option maxHeartbeats 400000 in
theorem take_no {w : World} {g : Nat} {l : List Int} {gave : Bool} (k : Int) (h : Rd w g l gave) (hk : (l.length : Int) < k) :
    Calls Try.prog 42 #[.pointer (some ⟨g, 0, none⟩), .int .i64 k] w fun e w' => e = .panicked lost ∧ w = w' := by
  obtain ⟨a, n, c, hw, ht⟩ := h
  have hn := ht.1
  rw [hn] at hk
  have c0 := hw.cell 0
  simp only [List.getElem?_toArray, List.getElem?_cons_zero] at c0
  clear hw ht hn
  have d1 : decide (k ≤ (n : Int)) = false := by simp; omega
  go_enter Try.func42, Try.ntmps42
  go_wp2_with (go_at_call 38; refine (must_no _).mono ?_; rintro e w' ⟨rfl, rfl⟩)
  exact ⟨rfl, rfl, rfl⟩

theorem unfold_odd {u : Nat} (h : u % 2 = 1) : Cd.unfold u = -((u : Int) / 2) - 1 := by unfold Cd.unfold; rw [if_pos h]; omega
theorem unfold_even {u : Nat} (h : ¬ u % 2 = 1) : Cd.unfold u = (u : Int) / 2 := by unfold Cd.unfold; rw [if_neg h]; omega
theorem ret_i64 {a b : Int} (h : a = b) : Ending.returned (.int .i64 a) = .returned (.int .i64 b) := by rw [h]
set_option maxHeartbeats 400000 in
theorem unfold_any (u : Int) (w : World) (h0 : 0 ≤ u) (h1 : u ≤ 18446744073709551615) :
    Calls Try.prog 49 #[.int .u64 u] w fun e w' => e = .returned (.int .i64 (Cd.unfold u.toNat)) ∧ w = w' := by
  by_cases h : u % 2 = 1
  · have HV := Lib.hid (unfold_odd (u := u.toNat) (by omega))
    rw [show ((u.toNat : Nat) : Int) = u by omega] at HV
    have hb : (u % 2 == 1) = true := by simp [h]
    clear h
    go_enter Try.func49, Try.ntmps49
    go_wp2
    go_ret
    exact ⟨ret_i64 HV.out.symm, rfl⟩
  · have HV := Lib.hid (unfold_even (u := u.toNat) (by omega))
    rw [show ((u.toNat : Nat) : Int) = u by omega] at HV
    have hb : (u % 2 == 1) = false := by simp [h]
    clear h
    go_enter Try.func49, Try.ntmps49
    go_wp2
    go_ret
    exact ⟨ret_i64 HV.out.symm, rfl⟩
end Go.Proofs.Ytkmkccdihoaefaa
