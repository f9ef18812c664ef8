/-
  The document's roots.
-/
import Derived.Test.YtndiojiphoomgaaDoorJb
set_option linter.unusedSimpArgs false
namespace Go.Proofs.YtndiojiphoomgaaDoor
open Go.RowKit
def rts (p many : Nat) : List (BitVec 32) := (Rf.primes.take many).map (Rf.rootW p)
theorem primes_len : Rf.primes.length = 64 := prTo_312
theorem rts_len (p many : Nat) (h : many ≤ 64) : (rts p many).length = many := by simp [rts, primes_len]; omega
theorem rts3 : rts 3 64 = Sm.rK := by
  unfold rts
  rw [List.take_of_length_le (by rw [primes_len]; omega), roots3]
theorem rts2 : rts 2 8 = Sm.rH := roots2
theorem rts_succ (p : Nat) {m : Nat} (h : m < 64) : rts p (m + 1) = rts p m ++ [Rf.rootW p (Rf.primes.getD m 0)] := by
  have hm : m < Rf.primes.length := by rw [primes_len]; exact h
  unfold rts
  rw [List.take_succ_eq_append_getElem hm, List.map_append]
  simp [hm]
theorem wds_snoc (l : List (BitVec 32)) (x : BitVec 32) : wds (l ++ [x]) = wds l ++ [.int .u32 (num x)] := by simp [wds]
theorem pr_small {m : Nat} : Rf.primes.getD m 0 < 1000 := by
  by_cases h : m < Rf.primes.length
  · have h2 : Rf.primes[m] ∈ Rf.primes := List.getElem_mem h
    have h3 := List.mem_range.1 (List.mem_filter.1 h2).1
    simp [h]
    omega
  · simp [Nat.le_of_not_lt h]
/-- The words l lie in the slice a, n, c, whose block is one of S. -/
def Wrd (w : World) (S : Nat → Prop) (a : Option Addr) (n : Nat) (l : List (BitVec 32)) : Prop := l.length = n ∧ ∃ g, a = some ⟨g, 0, none⟩ ∧ S g ∧ g < w.heap.size ∧ ∀ k, k < n → w.cell? ⟨g, k, none⟩ = some (.int .u32 (num (l.getD k 0)))
theorem Wrd.below {w w' : World} {S : Nat → Prop} {a : Option Addr} {n B : Nat} {l : List (BitVec 32)} (h : Wrd w S a n l) (hb : Below B w w') (hS : ∀ g, g < w.heap.size → S g → g < B) : Wrd w' S a n l := by
  obtain ⟨h1, g, h2, h3, h4, h5⟩ := h
  exact ⟨h1, g, h2, h3, Nat.lt_of_lt_of_le h4 hb.size, fun k hk => (hb.cell (p := ⟨g, k, none⟩) (hS g h4 h3)).trans (h5 k hk)⟩
theorem Wrd.weak {w : World} {S S' : Nat → Prop} {a : Option Addr} {n : Nat} {l : List (BitVec 32)} (h : Wrd w S a n l) (hS : ∀ g, g < w.heap.size → S g → S' g) : Wrd w S' a n l := by
  obtain ⟨h1, g, h2, h3, h4, h5⟩ := h
  exact ⟨h1, g, h2, hS g h4 h3, h4, h5⟩
theorem Wrd.own {w : World} {base n : Nat} {q : Option Addr} {cap : Nat} {l : List (BitVec 32)} (h : w.ownsRow base 37 1 (.slice q n cap) n (wds l)) (h0 : 0 < n) : Wrd w (base ≤ ·) q n l := by
  have hl : l.length = n := by have := h.1; rw [wds_len] at this; omega
  obtain ⟨g, cap', he, hb, hlt⟩ := h.form h0
  injection he with e1 e2 e3
  subst e1
  refine ⟨hl, g, rfl, hb, hlt, fun k hk => ?_⟩
  have := h.cellAt k (by omega)
  rw [wds_get _ _ (by omega)] at this
  subst e3
  simpa using this
set_option maxHeartbeats 2000000 in
theorem roots_any (many p : Nat) (h0 : 0 < many) (hm : many ≤ 64) (hp : p = 2 ∨ p = 3) (w : World) : Calls Tryd.prog 18 #[.int .i64 (many : Int), .int .i64 (p : Int)] w fun e w' => ∃ q cap, e = .returned (.slice q many cap) ∧ Wrd w' (w.heap.size ≤ ·) q many (rts p many) ∧ Below w.heap.size w w' := by
  have HP := Lib.hid hp
  clear hp
  go_enter Tryd.func18, Tryd.ntmps18
  go_wp2_with fail
  refine (primes_any many hm _).mono ?_
  rintro e w1 ⟨q1, cap1, rfl, hown, hb1⟩
  obtain ⟨g, capx, he, hbg, hlt1⟩ := hown.form h0
  injection he with e1 e2 e3
  subst e1
  subst e3
  have HC : Hid (∀ k, k < many → w1.cell? ⟨g, k, none⟩ = some (.int .u64 ((Rf.primes.getD k 0 : Nat) : Int))) := Lib.hid (by
    intro k hk
    have h2 : (n64 (Rf.primes.take many)).length = many := by rw [n64_len, List.length_take, primes_len]; omega
    have := hown.cellAt k (by omega)
    rw [n64_get _ _ (by rw [n64_len] at h2; omega)] at this
    have hk2 : k < Rf.primes.length := by rw [primes_len]; omega
    simpa [List.getElem?_take, hk, hk2] using this)
  clear hown e2
  have HB1 := Lib.hid hb1
  have hs1 := hb1.size
  clear hb1
  go_wp2
  generalize hBe : w1.heap.size = B at *
  have HBE := Lib.hid hBe
  clear hBe
  go_loopw [6, 7] (fun v i wr => ∃ (m : Nat) (q : Option Addr) (cap : Nat), m ≤ many ∧ v = .slice q m cap ∧ i = .int .i64 (m : Int) ∧ Hid (wr.ownsRow B 37 1 (.slice q m cap) m (wds (rts p m)) ∧ Below B w1 wr)) (fun _ i _ => many - (intOf i).toNat)
  case atStart => exact ⟨0, none, 0, by omega, rfl, rfl, Lib.hid ⟨World.ownsRow_nil _ _ _ _, Below.refl _ _⟩⟩
  case round =>
    obtain ⟨m, q, cap, hmm, rfl, rfl, HJ⟩ := hrel
    have sj : B ≤ wr.heap.size := Nat.le_trans (by rw [HBE.out]; exact Nat.le_refl _) HJ.out.2.size
    by_cases hlt : m < many
    · have hd : decide ((m : Int) < (many : Int)) = true := by simp; omega
      obtain ⟨x, hx⟩ : ∃ x, Rf.primes.getD m 0 = x := ⟨_, rfl⟩
      have hx2 : x < 1000 := hx ▸ pr_small
      have c0 : wr.cell? ⟨g, m, none⟩ = some (.int .u64 (x : Int)) := by rw [HJ.out.2.cell (p := ⟨g, m, none⟩) hlt1, HC.out m hlt, hx]
      have HX := Lib.hid hx
      clear hx
      go_wp2_with (first
        | (go_at_call 27; refine (root_any p HP.out x hx2 _).mono ?_; rintro e w' ⟨rfl, rfl⟩)
        | (at_builtin; refine wpList_append_one rfl (.tmp 15) (.tmp 22) 45 37 (.int .u32 0) 4 rfl Tryd.underlying45 u32_info rfl (by omega) B _ m (wds (rts p m)) rfl (HJ.out.1.alloc _) wr.heap.size 37 (.int .u32 (num (Rf.rootW p x))) rfl (Whole.new _ _ _) rfl (by omega) (by simp; omega) ?_))
      intro v5 w5 hown hg
      have HO5 := Lib.hid hown
      have HB5 : Hid (Below B w1 w5) := Lib.hid ((HJ.out.2.alloc sj _).grown hg (by simp; omega) (fun k hk => (HJ.out.1.lt k hk).1))
      clear hown hg
      obtain ⟨q5, cap5, rfl⟩ := row_form HO5.out
      go_wp2
      go_roundw
      case rel => exact ⟨m + 1, q5, cap5, by omega, rfl, by go_num, Lib.hid ⟨by rw [rts_succ p (by omega), HX.out, wds_snoc]; exact HO5.out, HB5.out⟩⟩
      case measure => simp [intOf]; omega
    · have hd : decide ((m : Int) < (many : Int)) = false := by simp; omega
      have he : m = many := by omega
      subst he
      go_wp2
      go_ret
      exact ⟨q, cap, rfl, (Wrd.own HJ.out.1 h0).weak (fun g _ h => by omega), HB1.out.trans (HJ.out.2.mono hs1)⟩
end Go.Proofs.YtndiojiphoomgaaDoor
