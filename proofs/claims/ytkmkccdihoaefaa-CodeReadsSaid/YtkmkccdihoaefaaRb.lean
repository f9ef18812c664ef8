/-
  The walk of package code's number: what is read of the rest, or that it is given up.
-/
import Derived.Test.YtkmkccdihoaefaaRa
namespace Go.Proofs.Ytkmkccdihoaefaa
open Go.RowKit

/-- A number was read, or given up. -/
def Num (w : World) (g : Nat) (gave : Bool) (o : Option (Int × List Int)) (e : Ending) (w' : World) : Prop :=
  (∃ v r, o = some (v, r) ∧ e = .returned (.int .i64 v) ∧ Rd w' g r gave ∧ w.grownBy w' (some g)) ∨
  (o = none ∧ e = .panicked lost ∧ (∃ r, Rd w' g r gave) ∧ w.grownBy w' (some g))

def restLen (g : Nat) (w : World) : Nat := match w.cell? ⟨g, 0, none⟩ with | some (.slice _ n _) => n | _ => 0
theorem Rd.len {w : World} {g : Nat} {l : List Int} {gave : Bool} (h : Rd w g l gave) : restLen g w = l.length := by
  obtain ⟨a, n, c, hw, ht⟩ := h
  have := hw.cell 0
  unfold restLen
  rw [this]
  exact ht.1.symm
theorem Rd.byt {w : World} {g : Nat} {l : List Int} {gave : Bool} (h : Rd w g l gave) : Cd.Byt l := by
  obtain ⟨a, n, c, hw, ht⟩ := h
  exact ht.2.2.1

/-- What holds at the head of each round of number's loop: of the rest r, behind the byte b and with the bits u, what is read is G. -/
def NumRel (w : World) (g : Nat) (gave : Bool) (G : Option (Int × List Int)) (s7 s8 : Value) (wr : World) : Prop :=
  ∃ (b u : Int) (r : List Int), s7 = .int .u8 b ∧ s8 = .int .u64 u ∧ 0 ≤ b ∧ b < 256 ∧ 0 ≤ u ∧ u ≤ 18446744073709551615 ∧ Cd.go r u b = G ∧ Rd wr g r gave ∧ w.grownBy wr (some g)

theorem grown_trans {a b c : World} {g : Nat} (h : a.grownBy b (some g)) (k : b.grownBy c (some g)) : a.grownBy c (some g) :=
  ⟨k.os.trans h.os, k.tape.trans h.tape, k.output.trans h.output, Nat.le_trans h.size k.size, fun i hi hne => (k.block i (Nat.lt_of_lt_of_le hi h.size) hne).trans (h.block i hi hne)⟩

/-- The number among what was parsed, if it is from least to most. -/
def within (least most : Int) : Option (Int × List Int) → Option (Int × List Int)
  | some (u, r) => if least ≤ Cd.unfold u.toNat ∧ Cd.unfold u.toNat ≤ most then some (Cd.unfold u.toNat, r) else none
  | none => none
theorem within_some (least most u : Int) (r : List Int) : within least most (some (u, r)) = if least ≤ Cd.unfold u.toNat ∧ Cd.unfold u.toNat ≤ most then some (Cd.unfold u.toNat, r) else none := rfl
theorem get_of (least most : Int) (l : List Int) : Cd.get least most l = within least most (Cd.parse l) := by
  unfold Cd.get within
  cases Cd.parse l <;> rfl

theorem ts_one {w : World} {g : Nat} {a : Option Addr} {c : Nat} {x : Int} (h : Txt w (· < g) a 1 c [x]) : ∃ b off, a = some ⟨b, off, none⟩ ∧ w.cell? ⟨b, off, none⟩ = some (.int .u8 x) := by
  obtain ⟨b, off, ha, _, _, hc⟩ := h.cell (k := 0) (by omega)
  exact ⟨b, off, ha, hc⟩

set_option maxHeartbeats 1000000 in
theorem number_any {w : World} {g : Nat} {l : List Int} {gave : Bool} (least most : Int) (h : Rd w g l gave) :
    Calls Try.prog 41 #[.pointer (some ⟨g, 0, none⟩), .int .i64 least, .int .i64 most] w (Num w g gave (Cd.get least most l)) := by
  have H := Lib.hid h
  cases l with
  | nil =>
    have HG : Hid (Cd.get least most [] = none) := Lib.hid rfl
    clear h
    go_enter Try.func41, Try.ntmps41
    go_wp2_with fail
    refine (take_no 1 H.out (by simp)).mono ?_; rintro e w1 ⟨rfl, rfl⟩
    exact ⟨rfl, Or.inr ⟨HG.out, rfl, ⟨_, H.out⟩, World.grownBy.refl _ _⟩⟩
  | cons b t =>
    have hb := h.byt b (by simp)
    have hb0 := hb.1
    have hb1 := hb.2
    clear h hb
    obtain ⟨O, hO⟩ : ∃ O, Cd.get least most (b :: t) = O := ⟨_, rfl⟩
    rw [hO]
    rw [get_of, Cd.parse_cons] at hO
    have HO := Lib.hid hO
    clear hO
    by_cases h128 : b = 128
    · have HG : Hid (O = none) := Lib.hid (by have := HO.out; rw [if_pos h128] at this; exact this.symm)
      have hne : (b != 128) = false := by simp [h128]
      clear HO
      go_enter Try.func41, Try.ntmps41
      go_wp2_with fail
      refine (take_ok 1 H.out (by simp)).mono ?_; rintro e w1 ⟨a1, c1, rfl, htx, hrd, hgr⟩
      obtain ⟨p, off, rfl, hcell⟩ := ts_one htx
      have HR := Lib.hid hrd
      have HG1 := Lib.hid hgr
      clear htx hrd hgr h128
      go_wp2_with (go_at_call 38; refine (must_no _).mono ?_; rintro e w' ⟨rfl, rfl⟩)
      exact ⟨rfl, Or.inr ⟨HG.out, rfl, ⟨_, HR.out⟩, HG1.out⟩⟩
    · have hne : (b != 128) = true := by simp [h128]
      obtain ⟨G, hG⟩ : ∃ G, Cd.go t (b % 128) b = G := ⟨_, rfl⟩
      have HGo := Lib.hid hG
      have HOG : Hid (within least most G = O) := Lib.hid (by have := HO.out; rw [if_neg h128, hG] at this; exact this)
      clear HO hG h128
      go_enter Try.func41, Try.ntmps41
      go_wp2_with fail
      refine (take_ok 1 H.out (by simp)).mono ?_; rintro e w1 ⟨a1, c1, rfl, htx, hrd, hgr⟩
      obtain ⟨p, off, rfl, hcell⟩ := ts_one htx
      have HR := Lib.hid hrd
      have HG1 := Lib.hid hgr
      clear htx hrd hgr
      go_wp2_with (go_at_call 38; refine (must_ok _).mono ?_; rintro e w' ⟨rfl, rfl⟩)
      go_loopw [7, 8] (fun s7 s8 wr => NumRel w g gave G s7 s8 wr) (fun _ _ wr => restLen g wr)
      case atStart => exact ⟨b, b % 128, t, rfl, rfl, hb0, hb1, by omega, by omega, HGo.out, HR.out, HG1.out⟩
      case round =>
        clear HGo HR HG1 hcell hb0 hb1
        obtain ⟨x, u, r, rfl, rfl, hx0, hx1, hu0, hu1, hgo, hrd, hgr⟩ := hrel
        have HR := Lib.hid hrd
        have HG1 := Lib.hid hgr
        have HGo := Lib.hid hgo
        clear hrd hgr hgo
        by_cases hx : x < 128
        · have hge : decide (128 ≤ x) = false := by simp; omega
          have HOv : Hid ((if least ≤ Cd.unfold u.toNat ∧ Cd.unfold u.toNat ≤ most then some (Cd.unfold u.toNat, r) else none) = O) := Lib.hid (by
            have h1 := HOG.out
            have h2 := HGo.out
            rw [Cd.go_lt _ _ _ hx] at h2
            rw [← h2, within_some] at h1
            exact h1)
          clear HOG HGo hx
          go_wp2_with fail
          refine (unfold_any u _ hu0 hu1).mono ?_; rintro e w' ⟨rfl, rfl⟩
          generalize Cd.unfold u.toNat = n at *
          by_cases hc1 : least ≤ n
          · by_cases hc2 : n ≤ most
            · have d1 : decide (least ≤ n) = true := by simp [hc1]
              have d2 : decide (n ≤ most) = true := by simp [hc2]
              have HV : Hid (O = some (n, r)) := Lib.hid (by have := HOv.out; rw [if_pos ⟨hc1, hc2⟩] at this; exact this.symm)
              clear HOv
              go_wp2_with (go_at_call 38; refine (must_ok _).mono ?_; rintro e w' ⟨rfl, rfl⟩)
              go_ret
              exact Or.inl ⟨n, r, HV.out, rfl, HR.out, HG1.out⟩
            · have d1 : decide (least ≤ n) = true := by simp [hc1]
              have d2 : decide (n ≤ most) = false := by simp; omega
              have HV : Hid (O = none) := Lib.hid (by have := HOv.out; rw [if_neg (by omega)] at this; exact this.symm)
              clear HOv
              go_wp2_with (go_at_call 38; refine (must_no _).mono ?_; rintro e w' ⟨rfl, rfl⟩)
              exact ⟨rfl, Or.inr ⟨HV.out, rfl, ⟨_, HR.out⟩, HG1.out⟩⟩
          · have d1 : decide (least ≤ n) = false := by simp; omega
            have HV : Hid (O = none) := Lib.hid (by have := HOv.out; rw [if_neg (by omega)] at this; exact this.symm)
            clear HOv
            go_wp2_with (go_at_call 38; refine (must_no _).mono ?_; rintro e w' ⟨rfl, rfl⟩)
            exact ⟨rfl, Or.inr ⟨HV.out, rfl, ⟨_, HR.out⟩, HG1.out⟩⟩
        · have hge : decide (128 ≤ x) = true := by simp; omega
          have HNO : Hid (G = none → O = none) := Lib.hid (by intro h; have := HOG.out; rw [h] at this; exact this.symm)
          by_cases hu : u < 144115188075855872
          · have hlt : decide (u < 144115188075855872) = true := by simp [hu]
            cases r with
            | nil =>
              have HV : Hid (O = none) := Lib.hid (HNO.out (by have := HGo.out; unfold Cd.go at this; rw [if_neg hx] at this; exact this.symm))
              clear HOG HGo HNO hx
              go_wp2_with (go_at_call 38; refine (must_ok _).mono ?_; rintro e w' ⟨rfl, rfl⟩)
              refine (take_no 1 HR.out (by simp)).mono ?_; rintro e w1 ⟨rfl, rfl⟩
              exact ⟨rfl, Or.inr ⟨HV.out, rfl, ⟨_, HR.out⟩, HG1.out⟩⟩
            | cons y r =>
              have HG2 : Hid (Cd.go r (u * 128 + y % 128) y = G) := Lib.hid (by have := HGo.out; rw [Cd.go_ge _ _ _ _ hx (by unfold Cd.top57; exact hu)] at this; exact this)
              have hy := HR.out.byt y (by simp)
              have hy0 := hy.1
              have hy1 := hy.2
              have HLEN : Hid (restLen g wr = r.length + 1) := Lib.hid (by rw [HR.out.len]; simp)
              clear HOG HGo HNO hx hy
              go_wp2_with (go_at_call 38; refine (must_ok _).mono ?_; rintro e w' ⟨rfl, rfl⟩)
              refine (take_ok 1 HR.out (by simp)).mono ?_; rintro e w2 ⟨a2, c2, rfl, htx, hrd, hgr⟩
              obtain ⟨q, qo, rfl, hcl⟩ := ts_one htx
              have HR2 := Lib.hid hrd
              have HG3 := Lib.hid hgr
              clear htx hrd hgr
              go_wp2
              exact ⟨⟨y, _, r, rfl, rfl, hy0, hy1, by omega, by omega, HG2.out, HR2.out, grown_trans HG1.out HG3.out⟩, by rw [HR2.out.len, HLEN.out]; simp⟩
          · have hlt : decide (u < 144115188075855872) = false := by simp; omega
            have HV : Hid (O = none) := Lib.hid (HNO.out (by
              have := HGo.out
              cases r with
              | nil => unfold Cd.go at this; rw [if_neg hx] at this; exact this.symm
              | cons y r => unfold Cd.go at this; rw [if_neg hx, if_neg (by unfold Cd.top57; exact hu)] at this; exact this.symm))
            clear HOG HGo HNO hx hu
            go_wp2_with (go_at_call 38; refine (must_no _).mono ?_; rintro e w' ⟨rfl, rfl⟩)
            exact ⟨rfl, Or.inr ⟨HV.out, rfl, ⟨_, HR.out⟩, HG1.out⟩⟩
end Go.Proofs.Ytkmkccdihoaefaa
