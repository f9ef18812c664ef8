/-
  Mathematics of two who ask at their ticks: what an acceptor keeps, and that two never hold one slot at the same tick.
-/
import Derived.Test.YtegdopbiiddamaaS1
import Derived.Test.YtegdopbiiddamaaMn
import Derived.Test.YtegdopbiiddamaaMj
set_option linter.unusedVariables false
namespace Go.Proofs.Ytegdopbiiddamaa.Mt
/-- A clock behind so many ticks. -/
def ck (p : Dr.P) (told : Nat → Nat → Int) (n : Nat) : Nat → Int
  | 0 => p.grant
  | k + 1 => ck p told n k + p.gain (told k n)
theorem gain_in {p : Dr.P} (h : p.ok) (t : Int) : p.slow ≤ p.gain t ∧ p.gain t ≤ p.fast := by
  have h2 := h.2.2.1
  unfold Dr.P.g2 at h2
  unfold Dr.P.gain
  rw [if_pos h]
  unfold Dr.P.slow Dr.P.fast
  omega
theorem ck_far {p : Dr.P} (h : p.ok) (told : Nat → Nat → Int) (n : Nat) (a k : Nat) : (k : Int) * p.slow ≤ ck p told n (a + k) - ck p told n a ∧ ck p told n (a + k) - ck p told n a ≤ (k : Int) * p.fast := by
  induction k with
  | zero => simp
  | succ k ih =>
    have e : ck p told n (a + (k + 1)) = ck p told n (a + k) + p.gain (told (a + k) n) := rfl
    have hg := gain_in h (told (a + k) n)
    rw [e, Int.natCast_add, Int.add_mul, Int.add_mul]
    simp only [Int.natCast_one, Int.one_mul]
    omega
theorem ck_up {p : Dr.P} (h : p.ok) (told : Nat → Nat → Int) (n : Nat) {a b : Nat} (hab : a ≤ b) : ((b - a : Nat) : Int) * p.slow ≤ ck p told n b - ck p told n a ∧ ck p told n b - ck p told n a ≤ ((b - a : Nat) : Int) * p.fast := by
  have := ck_far h told n a (b - a)
  rw [show a + (b - a) = b by omega] at this
  exact this
theorem ck_in {p : Dr.P} (h : p.ok) (told : Nat → Nat → Int) (n t : Nat) (ht : t ≤ 100) : 1 ≤ ck p told n t ∧ ck p told n t ≤ 2000000000 := by
  have h1 := ck_up h told n (Nat.zero_le t)
  have h2 := h.2.2.1
  have h3 := h.2.2.2.1
  unfold Dr.P.g2 at h2
  unfold Dr.P.g3 Dr.tm at h3
  have e : ck p told n 0 = p.grant := rfl
  rw [e] at h1
  unfold Dr.P.slow Dr.P.fast at h1
  have a1 : 0 ≤ ((t - 0 : Nat) : Int) * (1000 - p.rho) := Int.mul_nonneg (by omega) (by omega)
  have a2 : ((t - 0 : Nat) : Int) * (1000 + p.rho) ≤ ((t - 0 : Nat) : Int) * 1500 := Int.mul_le_mul_of_nonneg_left (by omega) (by omega)
  omega
/-- That two clocks can't be so far apart. -/
theorem apart {p : Dr.P} (h : p.ok) {k u : Int} (hk : 0 ≤ k) (h1 : k * p.slow ≤ u) (h3 : u < p.hold) (h4 : p.grant ≤ k * p.fast) : False := by
  obtain ⟨r0, r1⟩ := h.2.2.1
  have h5 : p.hold * (1000 + p.rho) < p.grant * (1000 - p.rho) := h.2.2.2.2.1
  unfold Dr.P.slow at h1
  unfold Dr.P.fast at h4
  have h6 : k * (1000 - p.rho) * (1000 + p.rho) ≤ p.hold * (1000 + p.rho) := Int.mul_le_mul_of_nonneg_right (by omega) (by omega)
  have h7 : p.grant * (1000 - p.rho) ≤ k * (1000 + p.rho) * (1000 - p.rho) := Int.mul_le_mul_of_nonneg_right (by omega) (by omega)
  have h8 : k * (1000 - p.rho) * (1000 + p.rho) = k * (1000 + p.rho) * (1000 - p.rho) := by rw [Int.mul_assoc, Int.mul_assoc, Int.mul_comm (1000 - p.rho)]
  omega
/-- What an acceptor keeps: who is among both lists, as far as it was asked (before the ticks tA and tB). -/
structure Nod (p : Dr.P) (told : Nat → Nat → Int) (n : Nat) (tA tB : Nat) (ac : Gt.A) (fa fb : List Int) (uA uB : Nat) : Prop where
  len : (ac.gs.length : Int) = p.slots
  boot : ac.boot = 0
  a : (n : Int) ∈ fa → tA < uA
  b : (n : Int) ∈ fb → tB < uB
  one : (n : Int) ∈ fa → (n : Int) ∉ fb → Gt.at_ ac 0 = ⟨0, 1, ck p told n (tA + 1)⟩
  two : (n : Int) ∈ fb → (n : Int) ∉ fa → Gt.at_ ac 0 = ⟨1, 1, ck p told n (tB + 1)⟩
  both : (n : Int) ∈ fa → (n : Int) ∈ fb → (tA ≤ tB ∧ p.grant ≤ ((tB - tA : Nat) : Int) * p.fast) ∨ (tB ≤ tA ∧ p.grant ≤ ((tA - tB : Nat) : Int) * p.fast)
variable {p : Dr.P} {told : Nat → Nat → Int} {n tA tB uA uB : Nat} {ac : Gt.A} {fa fb : List Int}
theorem Nod.more (h : Nod p told n tA tB ac fa fb uA uB) {vA vB : Nat} (hA : uA ≤ vA) (hB : uB ≤ vB) : Nod p told n tA tB ac fa fb vA vB :=
  ⟨h.len, h.boot, fun x => Nat.lt_of_lt_of_le (h.a x) hA, fun x => Nat.lt_of_lt_of_le (h.b x) hB, h.one, h.two, h.both⟩
/-- Other nodes' answers turn nothing. -/
theorem Nod.other (h : Nod p told n tA tB ac fa fb uA uB) {fa' fb' : List Int} (ha : (n : Int) ∈ fa' ↔ (n : Int) ∈ fa) (hb : (n : Int) ∈ fb' ↔ (n : Int) ∈ fb) : Nod p told n tA tB ac fa' fb' uA uB :=
  ⟨h.len, h.boot, fun x => h.a (ha.1 x), fun x => h.b (hb.1 x), fun x y => h.one (ha.1 x) (fun z => y (hb.2 z)), fun x y => h.two (hb.1 x) (fun z => y (ha.2 z)), fun x y => h.both (ha.1 x) (hb.1 y)⟩
theorem nod_new (hok : p.ok) (n tA tB : Nat) : Nod p told n tA tB (Gt.new p 0) [] [] 0 0 := by
  refine ⟨?_, by unfold Gt.new; rw [if_pos hok], (fun x => by cases x), (fun x => by cases x), (fun x => by cases x), (fun x => by cases x), (fun x => by cases x)⟩
  unfold Gt.new
  rw [if_pos hok]
  have := hok.2.1.1
  simp only [List.length_replicate]
  omega
/-- Who is not among those who granted is. -/
theorem grant_in (hok : p.ok) {l : Ln.L} {n : Nat} (hn : (n : Int) < p.nodes) (hs : l.slot = 0) (hno : l.nonce = 1) : (n : Int) ∈ (Ln.grant p l n 0 1).fr ∧ (∀ x, x ≠ (n : Int) → (x ∈ (Ln.grant p l n 0 1).fr ↔ x ∈ l.fr)) ∧ (Ln.grant p l n 0 1).slot = 0 ∧ (Ln.grant p l n 0 1).nonce = 1 ∧ (Ln.grant p l n 0 1).asked = l.asked ∧ (Ln.grant p l n 0 1).fr.length ≤ l.fr.length + 1 := by
  unfold Ln.grant
  by_cases hx : (n : Int) ∈ l.fr
  · rw [if_neg (fun h => h.2.2.2.2.2 hx)]
    exact ⟨hx, fun _ _ => Iff.rfl, hs, hno, rfl, Nat.le_succ _⟩
  · rw [if_pos ⟨hok, hs.symm, hno.symm, by omega, hn, hx⟩]
    refine ⟨by simp, fun x hxn => ?_, hs, hno, rfl, by simp⟩
    simp only [List.mem_append, List.mem_singleton]
    exact ⟨fun h => h.elim id (fun e => absurd e hxn), Or.inl⟩
/-- The node n is asked by the first one, at its tick. -/
theorem Nod.askA (h : Nod p told n tA tB ac fa fb tA uB) (hok : p.ok) (huB : uB ≤ tA + 1) {fa' : List Int} (hin : (n : Int) ∈ fa') (hg : Gt.grants p ac 0 0 1 (ck p told n (tA + 1))) :
    Nod p told n tA tB (Gt.put ac 0 ⟨0, 1, ck p told n (tA + 1)⟩) fa' fb (tA + 1) uB := by
  have hsl : 0 < ac.gs.length := by have := h.len; have := hok.2.1.1; omega
  refine ⟨by rw [Gt.put_len]; exact h.len, h.boot, fun _ => Nat.lt_succ_self _, h.b, fun _ _ => Gt.at_put (k := 0) hsl ⟨0, 1, ck p told n (tA + 1)⟩, fun _ hx => absurd hin hx, fun _ hb => ?_⟩
  have hna : (n : Int) ∉ fa := fun hx => by have := h.a hx; omega
  have hb1 := h.b hb
  have hat := h.two hb hna
  obtain ⟨_, _, _, _, _, _, hor⟩ := hg
  rw [hat] at hor
  rcases hor with q | q | q
  · simp at q
  · simp at q
  · have hf := (of_decide_eq_true q).2.2
    have hup := (ck_up hok told n (a := tB + 1) (b := tA + 1) (by omega)).2
    rw [show tA + 1 - (tB + 1) = tA - tB by omega] at hup
    exact Or.inr ⟨by omega, Int.le_trans hf hup⟩
/-- The node n is asked by the other one, at its tick. -/
theorem Nod.askB (h : Nod p told n tA tB ac fa fb uA tB) (hok : p.ok) (huA : uA ≤ tB + 1) {fb' : List Int} (hin : (n : Int) ∈ fb') (hg : Gt.grants p ac 0 1 1 (ck p told n (tB + 1))) :
    Nod p told n tA tB (Gt.put ac 0 ⟨1, 1, ck p told n (tB + 1)⟩) fa fb' uA (tB + 1) := by
  have hsl : 0 < ac.gs.length := by have := h.len; have := hok.2.1.1; omega
  refine ⟨by rw [Gt.put_len]; exact h.len, h.boot, h.a, fun _ => Nat.lt_succ_self _, fun _ hx => absurd hin hx, fun _ _ => Gt.at_put (k := 0) hsl ⟨1, 1, ck p told n (tB + 1)⟩, fun ha _ => ?_⟩
  have hnb : (n : Int) ∉ fb := fun hx => by have := h.b hx; omega
  have ha1 := h.a ha
  have hat := h.one ha hnb
  obtain ⟨_, _, _, _, _, _, hor⟩ := hg
  rw [hat] at hor
  rcases hor with q | q | q
  · simp at q
  · simp at q
  · have hf := (of_decide_eq_true q).2.2
    have hup := (ck_up hok told n (a := tA + 1) (b := tB + 1) (by omega)).2
    rw [show tB + 1 - (tA + 1) = tB - tA by omega] at hup
    exact Or.inl ⟨by omega, Int.le_trans hf hup⟩
/-- Two lists that have a majority each have one in both. -/
theorem cnt_two (fa fb : List Int) : ∀ k : Nat, (∀ n : Nat, n < k → ¬ ((n : Int) ∈ fa ∧ (n : Int) ∈ fb)) → Ln.cnt fa k + Ln.cnt fb k ≤ k
  | 0, _ => Nat.le_refl _
  | k + 1, h => by
    have ih := cnt_two fa fb k (fun n hn => h n (by omega))
    have hk := h k (by omega)
    unfold Ln.cnt
    by_cases h1 : (k : Int) ∈ fa
    · have h2 : (k : Int) ∉ fb := fun h2 => hk ⟨h1, h2⟩
      rw [if_pos h1, if_neg h2]
      omega
    · rw [if_neg h1]
      split <;> omega
/-- Two never hold one slot at the same tick. -/
theorem meets (hok : p.ok) {N : Nat} (hN : p.nodes = (N : Int)) {wA wB : Nat → Nat} {TA TB t : Nat} (hA : TA ≤ t) (hB : TB ≤ t) {acs : Nat → Gt.A}
    (h : ∀ n, n < N → Nod p told n (TA + wA n) (TB + wB n) (acs n) fa fb (t + 1) (t + 1)) {a b : Ln.L} (ha : a.fr = fa) (hb : b.fr = fb) (haa : a.asked = ck p told 0 (TA + 1)) (hbb : b.asked = ck p told 1 (TB + 1))
    (h1 : Ln.held p a (ck p told 0 (t + 1)) = true) (h2 : Ln.held p b (ck p told 1 (t + 1)) = true) : False := by
  unfold Ln.held at h1 h2
  rw [Bool.and_eq_true] at h1 h2
  have m1 := of_decide_eq_true h1.2
  have m2 := of_decide_eq_true h2.2
  have o1 := (of_decide_eq_true h1.1).2.2
  have o2 := (of_decide_eq_true h2.1).2.2
  rw [haa] at o1
  rw [hbb] at o2
  rw [ha] at m1
  rw [hb] at m2
  rw [hN, Int.toNat_natCast] at m1 m2
  have hmaj : p.maj = p.nodes / 2 + 1 := if_pos hok
  rw [hmaj, hN] at m1 m2
  by_cases hex : ∀ n : Nat, n < N → ¬ ((n : Int) ∈ fa ∧ (n : Int) ∈ fb)
  · have := cnt_two fa fb N hex
    omega
  · obtain ⟨n, hn⟩ := Classical.not_forall.1 hex
    obtain ⟨hn, hx⟩ := Classical.not_imp.1 hn
    obtain ⟨x1, x2⟩ := Classical.not_not.1 hx
    have hd := h n hn
    have ta := hd.a x1
    have tb := hd.b x2
    rcases hd.both x1 x2 with ⟨q1, q2⟩ | ⟨q1, q2⟩
    · have hup := (ck_up hok told 0 (a := TA + 1) (b := t + 1) (by omega)).1
      have hs : 0 ≤ p.slow := by have := hok.2.2.1; unfold Dr.P.g2 at this; unfold Dr.P.slow; omega
      have hle : ((TB + wB n - (TA + wA n) : Nat) : Int) * p.slow ≤ ((t + 1 - (TA + 1) : Nat) : Int) * p.slow := Int.mul_le_mul_of_nonneg_right (by omega) hs
      exact apart hok (by omega) (Int.le_trans hle hup) o1 q2
    · have hup := (ck_up hok told 1 (a := TB + 1) (b := t + 1) (by omega)).1
      have hs : 0 ≤ p.slow := by have := hok.2.2.1; unfold Dr.P.g2 at this; unfold Dr.P.slow; omega
      have hle : ((TA + wA n - (TB + wB n) : Nat) : Int) * p.slow ≤ ((t + 1 - (TB + 1) : Nat) : Int) * p.slow := Int.mul_le_mul_of_nonneg_right (by omega) hs
      exact apart hok (by omega) (Int.le_trans hle hup) o2 q2
end Go.Proofs.Ytegdopbiiddamaa.Mt
