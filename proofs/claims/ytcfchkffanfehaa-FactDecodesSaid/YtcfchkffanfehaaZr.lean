/-
  The walks of package code's Reader: what is taken off the rest, numbers.
  The walk of package code's number: what is read of the rest, or that it is given up.
  The walks of package code's Reader, from the outside: Int, Need, Text, Hash, Done, New: a panic is recovered, and the reader gave up.
  More walks of package code's Reader: Need, Done, New, Text.
  The walks of package code's Reader: Hash.
  The walks of package code's Reader: Hash, of none and of one.
  The walks of the document's answer for layer 2: twice, Int, Text.
  The walk of the document's Get.
  The walk of the document's GetText.
-/
import Derived.Test.YtcfchkffanfehaaZc
import Derived.Defers
import Derived.Recover
import Derived.Laws.CopyRow
import Derived.Laws.Tables
import Derived.Deep.RegionHeld3
import Derived.RegionDies
import Derived.IntWalk
import Derived.Lib.ConvBytes
import Derived.Lib.Bytes
import Derived.Lib.SlBytesConst
namespace Go.Proofs.Ytcfchkffanfehaa.Co
set_option maxRecDepth 20000
open Go.RowKit

/-- The reader at block g has the rest l, and gave up or not. -/
def Rd (w : World) (g : Nat) (l : List Int) (gave : Bool) : Prop := ∃ a n c, Whole w g 88 #[.slice a n c, .bool gave] ∧ Txt w (· < g) a n c l

/-- What a panic of must bears. -/
def lost : List PanicEntry := [{ v := .iface 31 (.int .i64 20), recovered := false }]

theorem must_ok (w : World) : Calls Try.prog 69 #[.bool true] w fun e w' => e = .returned (.tuple #[]) ∧ w = w' := by
  go_enter Try.func69, Try.ntmps69
  go_wp2
  go_end0
  exact ⟨rfl, rfl⟩
theorem must_no (w : World) : Calls Try.prog 69 #[.bool false] w fun e w' => e = .panicked lost ∧ w = w' := by
  go_enter Try.func69, Try.ntmps69
  go_wp2
  exact ⟨rfl, rfl, rfl⟩

/-- k bytes were taken off the rest l, that lies in a block of S. -/
def TookS (S : Nat → Prop) (w : World) (g : Nat) (l : List Int) (gave : Bool) (k : Nat) (e : Ending) (w' : World) : Prop :=
  ∃ a c a' n' c', e = .returned (.slice a k c) ∧ Txt w' S a k c (l.take k) ∧ Whole w' g 88 #[.slice a' n' c', .bool gave] ∧ Txt w' S a' n' c' (l.drop k) ∧ w.grownBy w' (some g)
/-- k bytes were taken off the rest l. -/
def Took (w : World) (g : Nat) (l : List Int) (gave : Bool) (k : Nat) (e : Ending) (w' : World) : Prop :=
  ∃ a c, e = .returned (.slice a k c) ∧ Txt w' (· < g) a k c (l.take k) ∧ Rd w' g (l.drop k) gave ∧ w.grownBy w' (some g)
theorem grown_set (w : World) (g i : Nat) (u : Value) : w.grownBy (w.setCell ⟨g, i, none⟩ u) (some g) :=
  ⟨rfl, rfl, rfl, by simp [World.setCell], fun k _ hk => Below.heap_setCell w ⟨g, i, none⟩ u k (fun e => hk (by rw [e]))⟩
theorem took_end {S : Nat → Prop} {w : World} {g : Nat} {l : List Int} {gave : Bool} {a A' : Option Addr} {n c k : Nat} (hS : ∀ b, S b → b ≠ g) (hw : Whole w g 88 #[.slice a n c, .bool gave]) (ht : Txt w S a n c l) (hk : k ≤ n)
    (hA : A' = if c = k then a else a.map (·.add k)) : TookS S w g l gave k (.returned (.slice a k c)) (w.setCell ⟨g, 0, none⟩ (.slice A' (n - k) (c - k))) := by
  have hg := grown_set w g 0 (.slice A' (n - k) (c - k))
  have ht' := ht.grown hg (fun b _ hb => by simpa using hS b hb)
  refine ⟨a, c, A', n - k, c - k, rfl, ht'.take k hk, hw.set 0 _, ?_, hg⟩
  rw [hA]
  rw [hA] at ht'
  exact ht'.drop k hk

set_option maxHeartbeats 400000 in
theorem take_okS {S : Nat → Prop} {w : World} {g : Nat} {l : List Int} {gave : Bool} {a : Option Addr} {n c : Nat} (k : Nat) (hS : ∀ b, S b → b ≠ g) (hw : Whole w g 88 #[.slice a n c, .bool gave]) (ht : Txt w S a n c l) (hk : k ≤ l.length) :
    Calls Try.prog 67 #[.pointer (some ⟨g, 0, none⟩), .int .i64 k] w (TookS S w g l gave k) := by
  have hn := ht.1
  have hc := ht.2.1
  rw [hn] at hk
  have c0 := hw.cell 0
  have f0 := hw.frozen 0
  simp only [List.getElem?_toArray, List.getElem?_cons_zero] at c0
  have HW := Lib.hid hw
  have HT := Lib.hid ht
  have HS := Lib.hid hS
  clear hw ht hn hS
  have d1 : decide ((k : Int) ≤ (n : Int)) = true := by simp; omega
  have i1 : (k : Int) ≤ (c : Int) := by omega
  by_cases hck : c = k
  · have HE := Lib.hid (took_end (A' := a) HS.out HW.out HT.out hk (by rw [if_pos hck]))
    subst hck
    rw [Nat.sub_self, show n - c = 0 by omega] at HE
    go_enter Try.func67, Try.ntmps67
    go_wp2_with (go_at_call 69; refine (must_ok _).mono ?_; rintro e w' ⟨rfl, rfl⟩)
    go_ret
    exact HE.out
  · have HE := Lib.hid (took_end HS.out HW.out HT.out hk (by rw [if_neg hck]))
    go_enter Try.func67, Try.ntmps67
    go_wp2_with (go_at_call 69; refine (must_ok _).mono ?_; rintro e w' ⟨rfl, rfl⟩)
    go_ret
    exact HE.out
theorem take_ok {w : World} {g : Nat} {l : List Int} {gave : Bool} (k : Nat) (h : Rd w g l gave) (hk : k ≤ l.length) :
    Calls Try.prog 67 #[.pointer (some ⟨g, 0, none⟩), .int .i64 k] w (Took w g l gave k) := by
  obtain ⟨a, n, c, hw, ht⟩ := h
  refine (take_okS k (fun _ h => Nat.ne_of_lt h) hw ht hk).mono ?_
  rintro e w' ⟨a1, c1, a2, n2, c2, he, h1, h2, h3, h4⟩
  exact ⟨a1, c1, he, h1, ⟨a2, n2, c2, h2, h3⟩, h4⟩
set_option maxHeartbeats 400000 in
theorem take_no {w : World} {g : Nat} {l : List Int} {gave : Bool} (k : Int) (h : Rd w g l gave) (hk : (l.length : Int) < k) :
    Calls Try.prog 67 #[.pointer (some ⟨g, 0, none⟩), .int .i64 k] w fun e w' => e = .panicked lost ∧ w = w' := by
  obtain ⟨a, n, c, hw, ht⟩ := h
  have hn := ht.1
  rw [hn] at hk
  have c0 := hw.cell 0
  simp only [List.getElem?_toArray, List.getElem?_cons_zero] at c0
  clear hw ht hn
  have d1 : decide (k ≤ (n : Int)) = false := by simp; omega
  go_enter Try.func67, Try.ntmps67
  go_wp2_with (go_at_call 69; refine (must_no _).mono ?_; rintro e w' ⟨rfl, rfl⟩)
  exact ⟨rfl, rfl, rfl⟩

theorem unfold_odd {u : Nat} (h : u % 2 = 1) : Cd.unfold u = -((u : Int) / 2) - 1 := by unfold Cd.unfold; rw [if_pos h]; omega
theorem unfold_even {u : Nat} (h : ¬ u % 2 = 1) : Cd.unfold u = (u : Int) / 2 := by unfold Cd.unfold; rw [if_neg h]; omega
theorem ret_i64 {a b : Int} (h : a = b) : Ending.returned (.int .i64 a) = .returned (.int .i64 b) := by rw [h]
set_option maxHeartbeats 400000 in
theorem unfold_any (u : Int) (w : World) (h0 : 0 ≤ u) (h1 : u ≤ 18446744073709551615) :
    Calls Try.prog 70 #[.int .u64 u] w fun e w' => e = .returned (.int .i64 (Cd.unfold u.toNat)) ∧ w = w' := by
  by_cases h : u % 2 = 1
  · have HV := Lib.hid (unfold_odd (u := u.toNat) (by omega))
    rw [show ((u.toNat : Nat) : Int) = u by omega] at HV
    have hb : (u % 2 == 1) = true := by simp [h]
    clear h
    go_enter Try.func70, Try.ntmps70
    go_wp2
    go_ret
    exact ⟨ret_i64 HV.out.symm, rfl⟩
  · have HV := Lib.hid (unfold_even (u := u.toNat) (by omega))
    rw [show ((u.toNat : Nat) : Int) = u by omega] at HV
    have hb : (u % 2 == 1) = false := by simp [h]
    clear h
    go_enter Try.func70, Try.ntmps70
    go_wp2
    go_ret
    exact ⟨ret_i64 HV.out.symm, rfl⟩
end Go.Proofs.Ytcfchkffanfehaa.Co
namespace Go.Proofs.Ytcfchkffanfehaa.Co
set_option maxRecDepth 20000
open Go.RowKit

/-- A number was read, or given up. -/
def Num (w : World) (g : Nat) (gave : Bool) (o : Option (Int × List Int)) (e : Ending) (w' : World) : Prop :=
  (∃ v r, o = some (v, r) ∧ e = .returned (.int .i64 v) ∧ Rd w' g r gave ∧ w.grownBy w' (some g)) ∨
  (o = none ∧ e = .panicked lost ∧ (∃ r, Rd w' g r gave) ∧ w.grownBy w' (some g))

def restLen (g : Nat) (w : World) : Nat := match w.cell? ⟨g, 0, none⟩ with | some (.slice _ n _) => n | _ => 0
theorem Rd.len {w : World} {g : Nat} {l : List Int} {gave : Bool} (h : Rd w g l gave) : restLen g w = l.length := by
  obtain ⟨a, n, c, hw, ht⟩ := h
  have := hw.cell 0
  unfold restLen
  rw [this]
  exact ht.1.symm
theorem Rd.byt {w : World} {g : Nat} {l : List Int} {gave : Bool} (h : Rd w g l gave) : Cd.Byt l := by
  obtain ⟨a, n, c, hw, ht⟩ := h
  exact ht.2.2.1

/-- What holds at the head of each round of number's loop: of the rest r, behind the byte b and with the bits u, what is read is G. -/
def NumRel (w : World) (g : Nat) (gave : Bool) (G : Option (Int × List Int)) (s7 s8 : Value) (wr : World) : Prop :=
  ∃ (b u : Int) (r : List Int), s7 = .int .u8 b ∧ s8 = .int .u64 u ∧ 0 ≤ b ∧ b < 256 ∧ 0 ≤ u ∧ u ≤ 18446744073709551615 ∧ Cd.go r u b = G ∧ Rd wr g r gave ∧ w.grownBy wr (some g)

theorem grown_trans {a b c : World} {g : Nat} (h : a.grownBy b (some g)) (k : b.grownBy c (some g)) : a.grownBy c (some g) :=
  ⟨k.os.trans h.os, k.tape.trans h.tape, k.output.trans h.output, Nat.le_trans h.size k.size, fun i hi hne => (k.block i (Nat.lt_of_lt_of_le hi h.size) hne).trans (h.block i hi hne)⟩

/-- The number among what was parsed, if it is from least to most. -/
def within (least most : Int) : Option (Int × List Int) → Option (Int × List Int)
  | some (u, r) => if least ≤ Cd.unfold u.toNat ∧ Cd.unfold u.toNat ≤ most then some (Cd.unfold u.toNat, r) else none
  | none => none
theorem within_some (least most u : Int) (r : List Int) : within least most (some (u, r)) = if least ≤ Cd.unfold u.toNat ∧ Cd.unfold u.toNat ≤ most then some (Cd.unfold u.toNat, r) else none := rfl
theorem get_of (least most : Int) (l : List Int) : Cd.get least most l = within least most (Cd.parse l) := by
  unfold Cd.get within
  cases Cd.parse l <;> rfl

theorem ts_one {w : World} {g : Nat} {a : Option Addr} {c : Nat} {x : Int} (h : Txt w (· < g) a 1 c [x]) : ∃ b off, a = some ⟨b, off, none⟩ ∧ w.cell? ⟨b, off, none⟩ = some (.int .u8 x) := by
  obtain ⟨b, off, ha, _, _, hc⟩ := h.cell (k := 0) (by omega)
  exact ⟨b, off, ha, hc⟩

set_option maxHeartbeats 1000000 in
theorem number_any {w : World} {g : Nat} {l : List Int} {gave : Bool} (least most : Int) (h : Rd w g l gave) :
    Calls Try.prog 62 #[.pointer (some ⟨g, 0, none⟩), .int .i64 least, .int .i64 most] w (Num w g gave (Cd.get least most l)) := by
  have H := Lib.hid h
  cases l with
  | nil =>
    have HG : Hid (Cd.get least most [] = none) := Lib.hid rfl
    clear h
    go_enter Try.func62, Try.ntmps62
    go_wp2_with fail
    refine (take_no 1 H.out (by simp)).mono ?_; rintro e w1 ⟨rfl, rfl⟩
    exact ⟨rfl, Or.inr ⟨HG.out, rfl, ⟨_, H.out⟩, World.grownBy.refl _ _⟩⟩
  | cons b t =>
    have hb := h.byt b (by simp)
    have hb0 := hb.1
    have hb1 := hb.2
    clear h hb
    obtain ⟨O, hO⟩ : ∃ O, Cd.get least most (b :: t) = O := ⟨_, rfl⟩
    rw [hO]
    rw [get_of, Cd.parse_cons] at hO
    have HO := Lib.hid hO
    clear hO
    by_cases h128 : b = 128
    · have HG : Hid (O = none) := Lib.hid (by have := HO.out; rw [if_pos h128] at this; exact this.symm)
      have hne : (b != 128) = false := by simp [h128]
      clear HO
      go_enter Try.func62, Try.ntmps62
      go_wp2_with fail
      refine (take_ok 1 H.out (by simp)).mono ?_; rintro e w1 ⟨a1, c1, rfl, htx, hrd, hgr⟩
      obtain ⟨p, off, rfl, hcell⟩ := ts_one htx
      have HR := Lib.hid hrd
      have HG1 := Lib.hid hgr
      clear htx hrd hgr h128
      go_wp2_with (go_at_call 69; refine (must_no _).mono ?_; rintro e w' ⟨rfl, rfl⟩)
      exact ⟨rfl, Or.inr ⟨HG.out, rfl, ⟨_, HR.out⟩, HG1.out⟩⟩
    · have hne : (b != 128) = true := by simp [h128]
      obtain ⟨G, hG⟩ : ∃ G, Cd.go t (b % 128) b = G := ⟨_, rfl⟩
      have HGo := Lib.hid hG
      have HOG : Hid (within least most G = O) := Lib.hid (by have := HO.out; rw [if_neg h128, hG] at this; exact this)
      clear HO hG h128
      go_enter Try.func62, Try.ntmps62
      go_wp2_with fail
      refine (take_ok 1 H.out (by simp)).mono ?_; rintro e w1 ⟨a1, c1, rfl, htx, hrd, hgr⟩
      obtain ⟨p, off, rfl, hcell⟩ := ts_one htx
      have HR := Lib.hid hrd
      have HG1 := Lib.hid hgr
      clear htx hrd hgr
      go_wp2_with (go_at_call 69; refine (must_ok _).mono ?_; rintro e w' ⟨rfl, rfl⟩)
      go_loopw [7, 8] (fun s7 s8 wr => NumRel w g gave G s7 s8 wr) (fun _ _ wr => restLen g wr)
      case atStart => exact ⟨b, b % 128, t, rfl, rfl, hb0, hb1, by omega, by omega, HGo.out, HR.out, HG1.out⟩
      case round =>
        clear HGo HR HG1 hcell hb0 hb1
        obtain ⟨x, u, r, rfl, rfl, hx0, hx1, hu0, hu1, hgo, hrd, hgr⟩ := hrel
        have HR := Lib.hid hrd
        have HG1 := Lib.hid hgr
        have HGo := Lib.hid hgo
        clear hrd hgr hgo
        by_cases hx : x < 128
        · have hge : decide (128 ≤ x) = false := by simp; omega
          have HOv : Hid ((if least ≤ Cd.unfold u.toNat ∧ Cd.unfold u.toNat ≤ most then some (Cd.unfold u.toNat, r) else none) = O) := Lib.hid (by
            have h1 := HOG.out
            have h2 := HGo.out
            rw [Cd.go_lt _ _ _ hx] at h2
            rw [← h2, within_some] at h1
            exact h1)
          clear HOG HGo hx
          go_wp2_with fail
          refine (unfold_any u _ hu0 hu1).mono ?_; rintro e w' ⟨rfl, rfl⟩
          generalize Cd.unfold u.toNat = n at *
          by_cases hc1 : least ≤ n
          · by_cases hc2 : n ≤ most
            · have d1 : decide (least ≤ n) = true := by simp [hc1]
              have d2 : decide (n ≤ most) = true := by simp [hc2]
              have HV : Hid (O = some (n, r)) := Lib.hid (by have := HOv.out; rw [if_pos ⟨hc1, hc2⟩] at this; exact this.symm)
              clear HOv
              go_wp2_with (go_at_call 69; refine (must_ok _).mono ?_; rintro e w' ⟨rfl, rfl⟩)
              go_ret
              exact Or.inl ⟨n, r, HV.out, rfl, HR.out, HG1.out⟩
            · have d1 : decide (least ≤ n) = true := by simp [hc1]
              have d2 : decide (n ≤ most) = false := by simp; omega
              have HV : Hid (O = none) := Lib.hid (by have := HOv.out; rw [if_neg (by omega)] at this; exact this.symm)
              clear HOv
              go_wp2_with (go_at_call 69; refine (must_no _).mono ?_; rintro e w' ⟨rfl, rfl⟩)
              exact ⟨rfl, Or.inr ⟨HV.out, rfl, ⟨_, HR.out⟩, HG1.out⟩⟩
          · have d1 : decide (least ≤ n) = false := by simp; omega
            have HV : Hid (O = none) := Lib.hid (by have := HOv.out; rw [if_neg (by omega)] at this; exact this.symm)
            clear HOv
            go_wp2_with (go_at_call 69; refine (must_no _).mono ?_; rintro e w' ⟨rfl, rfl⟩)
            exact ⟨rfl, Or.inr ⟨HV.out, rfl, ⟨_, HR.out⟩, HG1.out⟩⟩
        · have hge : decide (128 ≤ x) = true := by simp; omega
          have HNO : Hid (G = none → O = none) := Lib.hid (by intro h; have := HOG.out; rw [h] at this; exact this.symm)
          by_cases hu : u < 144115188075855872
          · have hlt : decide (u < 144115188075855872) = true := by simp [hu]
            cases r with
            | nil =>
              have HV : Hid (O = none) := Lib.hid (HNO.out (by have := HGo.out; unfold Cd.go at this; rw [if_neg hx] at this; exact this.symm))
              clear HOG HGo HNO hx
              go_wp2_with (go_at_call 69; refine (must_ok _).mono ?_; rintro e w' ⟨rfl, rfl⟩)
              refine (take_no 1 HR.out (by simp)).mono ?_; rintro e w1 ⟨rfl, rfl⟩
              exact ⟨rfl, Or.inr ⟨HV.out, rfl, ⟨_, HR.out⟩, HG1.out⟩⟩
            | cons y r =>
              have HG2 : Hid (Cd.go r (u * 128 + y % 128) y = G) := Lib.hid (by have := HGo.out; rw [Cd.go_ge _ _ _ _ hx (by unfold Cd.top57; exact hu)] at this; exact this)
              have hy := HR.out.byt y (by simp)
              have hy0 := hy.1
              have hy1 := hy.2
              have HLEN : Hid (restLen g wr = r.length + 1) := Lib.hid (by rw [HR.out.len]; simp)
              clear HOG HGo HNO hx hy
              go_wp2_with (go_at_call 69; refine (must_ok _).mono ?_; rintro e w' ⟨rfl, rfl⟩)
              refine (take_ok 1 HR.out (by simp)).mono ?_; rintro e w2 ⟨a2, c2, rfl, htx, hrd, hgr⟩
              obtain ⟨q, qo, rfl, hcl⟩ := ts_one htx
              have HR2 := Lib.hid hrd
              have HG3 := Lib.hid hgr
              clear htx hrd hgr
              go_wp2
              exact ⟨⟨y, _, r, rfl, rfl, hy0, hy1, by omega, by omega, HG2.out, HR2.out, grown_trans HG1.out HG3.out⟩, by rw [HR2.out.len, HLEN.out]; simp⟩
          · have hlt : decide (u < 144115188075855872) = false := by simp; omega
            have HV : Hid (O = none) := Lib.hid (HNO.out (by
              have := HGo.out
              cases r with
              | nil => unfold Cd.go at this; rw [if_neg hx] at this; exact this.symm
              | cons y r => unfold Cd.go at this; rw [if_neg hx, if_neg (by unfold Cd.top57; exact hu)] at this; exact this.symm))
            clear HOG HGo HNO hx hu
            go_wp2_with (go_at_call 69; refine (must_no _).mono ?_; rintro e w' ⟨rfl, rfl⟩)
            exact ⟨rfl, Or.inr ⟨HV.out, rfl, ⟨_, HR.out⟩, HG1.out⟩⟩
end Go.Proofs.Ytcfchkffanfehaa.Co
namespace Go.Proofs.Ytcfchkffanfehaa.Co
set_option maxRecDepth 20000
open Go.RowKit

/-- A cell of its own that holds a value. -/
def Box (w : World) (p : Nat) (v : Value) : Prop := w.cell? ⟨p, 0, none⟩ = some v

set_option maxHeartbeats 400000 in
theorem intf_any {w : World} {g : Nat} {l : List Int} {gave : Bool} (p q r : Nat) (least most : Int) (h : Rd w g l gave)
    (h0 : w.cell? ⟨p, 0, none⟩ = some (.pointer (some ⟨g, 0, none⟩))) (h1 : w.cell? ⟨q, 0, none⟩ = some (.int .i64 least)) (h2 : w.cell? ⟨r, 0, none⟩ = some (.int .i64 most)) :
    Calls Try.prog 61 #[.pointer (some ⟨p, 0, none⟩), .pointer (some ⟨q, 0, none⟩), .pointer (some ⟨r, 0, none⟩)] w (Num w g gave (Cd.get least most l)) := by
  have H := Lib.hid h
  clear h
  go_enter Try.func61, Try.ntmps61
  go_wp2_with fail
  refine (number_any least most H.out).mono ?_
  rintro e w1 (⟨v, r, ho, rfl, hrd, hgr⟩ | ⟨ho, rfl, hrd, hgr⟩)
  · have HX : Hid (Num w g gave (Cd.get least most l) (.returned (.int .i64 v)) w1) := Lib.hid (Or.inl ⟨v, r, ho, rfl, hrd, hgr⟩)
    clear ho hrd hgr
    go_wp2
    go_ret
    exact HX.out
  · exact ⟨rfl, Or.inr ⟨ho, rfl, hrd, hgr⟩⟩

/-- The deferred function, behind a panic: the reader gave up. -/
theorem caughtI (p g : Nat) (a : Option Addr) (n c : Nat) (gave : Bool) (older : List PanicEntry) (pv : Value) (w : World) (h0 : w.cell? ⟨p, 0, none⟩ = some (.pointer (some ⟨g, 0, none⟩)))
    (hw : Whole w g 88 #[.slice a n c, .bool gave]) :
    CallsD Try.prog 68 #[.pointer (some ⟨p, 0, none⟩)] (.panicking ({ v := .iface 31 pv, recovered := false } :: older)) w fun e u' w' =>
      e = .returned (.tuple #[]) ∧ u' = .panicking ({ v := .iface 31 pv, recovered := true } :: older) ∧ w' = (w.setCell ⟨g, 0, none⟩ (.slice none 0 0)).setCell ⟨g, 1, none⟩ (.bool true) := by
  have c0 := hw.cell 0
  have f0 := hw.frozen 0
  have hw1 := hw.set 0 (.slice none 0 0)
  have c1 := hw1.cell 1
  have f1 := hw1.frozen 1
  simp at c0 c1
  refine callsD_of_wpS Try.func68 rfl fun c₀ cs hu => ?_
  apply wpS_seq
  apply wpS_region
  simp [wpOpsS, go_sem, recoverD, hu, Try.ntmps68, Exit.thenS]
  refine wpS_cond (t := true) (by simp [Act.eval, Array.replicate]) ?_
  simp only [if_true]
  refine wpS_of_wp ?_
  go_wp2
  exact ⟨rfl, _, rfl, .tuple #[], by simp [results, Try.results68], rfl, rfl, rfl⟩
theorem idleI (p : Nat) (w : World) :
    CallsD Try.prog 68 #[.pointer (some ⟨p, 0, none⟩)] .returning w fun e u' w' => e = .returned (.tuple #[]) ∧ u' = .returning ∧ w' = w := by
  refine callsD_of_wpS Try.func68 rfl fun c₀ cs hu => ?_
  apply wpS_seq
  apply wpS_region
  simp [wpOpsS, go_sem, recoverD, hu, Try.ntmps68, Exit.thenS]
  refine wpS_cond (t := false) (by simp [Act.eval, Array.replicate]) ?_
  simp only [Bool.false_eq_true, if_false]
  refine wpS_of_wp (wp_skip ?_)
  cases c₀
  simp_all [bodyPostS, results, Try.results68]
/-- The deferred function, behind a panic: the reader gave up. -/
theorem caughtT (p g : Nat) (a : Option Addr) (n c : Nat) (gave : Bool) (older : List PanicEntry) (pv : Value) (w : World) (h0 : w.cell? ⟨p, 0, none⟩ = some (.pointer (some ⟨g, 0, none⟩)))
    (hw : Whole w g 88 #[.slice a n c, .bool gave]) :
    CallsD Try.prog 73 #[.pointer (some ⟨p, 0, none⟩)] (.panicking ({ v := .iface 31 pv, recovered := false } :: older)) w fun e u' w' =>
      e = .returned (.tuple #[]) ∧ u' = .panicking ({ v := .iface 31 pv, recovered := true } :: older) ∧ w' = (w.setCell ⟨g, 0, none⟩ (.slice none 0 0)).setCell ⟨g, 1, none⟩ (.bool true) := by
  have c0 := hw.cell 0
  have f0 := hw.frozen 0
  have hw1 := hw.set 0 (.slice none 0 0)
  have c1 := hw1.cell 1
  have f1 := hw1.frozen 1
  simp at c0 c1
  refine callsD_of_wpS Try.func73 rfl fun c₀ cs hu => ?_
  apply wpS_seq
  apply wpS_region
  simp [wpOpsS, go_sem, recoverD, hu, Try.ntmps73, Exit.thenS]
  refine wpS_cond (t := true) (by simp [Act.eval, Array.replicate]) ?_
  simp only [if_true]
  refine wpS_of_wp ?_
  go_wp2
  exact ⟨rfl, _, rfl, .tuple #[], by simp [results, Try.results73], rfl, rfl, rfl⟩
theorem idleT (p : Nat) (w : World) :
    CallsD Try.prog 73 #[.pointer (some ⟨p, 0, none⟩)] .returning w fun e u' w' => e = .returned (.tuple #[]) ∧ u' = .returning ∧ w' = w := by
  refine callsD_of_wpS Try.func73 rfl fun c₀ cs hu => ?_
  apply wpS_seq
  apply wpS_region
  simp [wpOpsS, go_sem, recoverD, hu, Try.ntmps73, Exit.thenS]
  refine wpS_cond (t := false) (by simp [Act.eval, Array.replicate]) ?_
  simp only [Bool.false_eq_true, if_false]
  refine wpS_of_wp (wp_skip ?_)
  cases c₀
  simp_all [bodyPostS, results, Try.results73]
/-- The deferred function, behind a panic: the reader gave up. -/
theorem caughtH (p g : Nat) (a : Option Addr) (n c : Nat) (gave : Bool) (older : List PanicEntry) (pv : Value) (w : World) (h0 : w.cell? ⟨p, 0, none⟩ = some (.pointer (some ⟨g, 0, none⟩)))
    (hw : Whole w g 88 #[.slice a n c, .bool gave]) :
    CallsD Try.prog 76 #[.pointer (some ⟨p, 0, none⟩)] (.panicking ({ v := .iface 31 pv, recovered := false } :: older)) w fun e u' w' =>
      e = .returned (.tuple #[]) ∧ u' = .panicking ({ v := .iface 31 pv, recovered := true } :: older) ∧ w' = (w.setCell ⟨g, 0, none⟩ (.slice none 0 0)).setCell ⟨g, 1, none⟩ (.bool true) := by
  have c0 := hw.cell 0
  have f0 := hw.frozen 0
  have hw1 := hw.set 0 (.slice none 0 0)
  have c1 := hw1.cell 1
  have f1 := hw1.frozen 1
  simp at c0 c1
  refine callsD_of_wpS Try.func76 rfl fun c₀ cs hu => ?_
  apply wpS_seq
  apply wpS_region
  simp [wpOpsS, go_sem, recoverD, hu, Try.ntmps76, Exit.thenS]
  refine wpS_cond (t := true) (by simp [Act.eval, Array.replicate]) ?_
  simp only [if_true]
  refine wpS_of_wp ?_
  go_wp2
  exact ⟨rfl, _, rfl, .tuple #[], by simp [results, Try.results76], rfl, rfl, rfl⟩
theorem idleH (p : Nat) (w : World) :
    CallsD Try.prog 76 #[.pointer (some ⟨p, 0, none⟩)] .returning w fun e u' w' => e = .returned (.tuple #[]) ∧ u' = .returning ∧ w' = w := by
  refine callsD_of_wpS Try.func76 rfl fun c₀ cs hu => ?_
  apply wpS_seq
  apply wpS_region
  simp [wpOpsS, go_sem, recoverD, hu, Try.ntmps76, Exit.thenS]
  refine wpS_cond (t := false) (by simp [Act.eval, Array.replicate]) ?_
  simp only [Bool.false_eq_true, if_false]
  refine wpS_of_wp (wp_skip ?_)
  cases c₀
  simp_all [bodyPostS, results, Try.results76]

theorem Rd.below {w w' : World} {g : Nat} {l : List Int} {gave : Bool} (h : Rd w g l gave) (hb : Below w.heap.size w w') : Rd w' g l gave := by
  obtain ⟨a, n, c, hw, ht⟩ := h
  exact ⟨a, n, c, hw.below hb hw.lt, ht.below hb (fun _ hlt _ => hlt)⟩
theorem Rd.lt {w : World} {g : Nat} {l : List Int} {gave : Bool} (h : Rd w g l gave) : g < w.heap.size := by
  obtain ⟨a, n, c, hw, ht⟩ := h
  exact hw.lt
theorem grown_of {w w1 w' : World} {g : Nat} (hb : Below w.heap.size w w1) (hg : w1.grownBy w' (some g)) : w.grownBy w' (some g) :=
  ⟨hg.os.trans hb.os, hg.tape.trans hb.tape, hg.output.trans hb.output, Nat.le_trans hb.size hg.size, fun k hk hne => (hg.block k (Nat.lt_of_lt_of_le hk hb.size) hne).trans (hb.block k hk)⟩
theorem size_alloc (w : World) (o : Obj) : (w.alloc o).heap.size = w.heap.size + 1 := by simp
theorem below_alloc (w : World) (o : Obj) : Below w.heap.size w (w.alloc o) := (Below.refl _ _).alloc (Nat.le_refl _) _
/-- A reader that gave up. -/
theorem Rd.lost {w : World} {g : Nat} {l : List Int} {gave : Bool} (h : Rd w g l gave) : Rd ((w.setCell ⟨g, 0, none⟩ (.slice none 0 0)).setCell ⟨g, 1, none⟩ (.bool true)) g [] true := by
  obtain ⟨a, n, c, hw, ht⟩ := h
  exact ⟨none, 0, 0, (hw.set 0 _).set 1 _, Txt.nil _ _ _ _⟩
theorem grown_lost {w w1 : World} {g : Nat} (h : w.grownBy w1 (some g)) (u v : Value) : w.grownBy ((w1.setCell ⟨g, 0, none⟩ u).setCell ⟨g, 1, none⟩ v) (some g) :=
  grown_trans (grown_trans h (grown_set _ _ _ _)) (grown_set _ _ _ _)

/-- A number was read, or the reader gave up. -/
def ReadI (w : World) (g : Nat) (gave : Bool) (o : Option (Int × List Int)) (e : Ending) (w' : World) : Prop :=
  (∃ v r, o = some (v, r) ∧ e = .returned (.int .i64 v) ∧ Rd w' g r gave ∧ w.grownBy w' (some g)) ∨
  (o = none ∧ e = .returned (.int .i64 0) ∧ Rd w' g [] true ∧ w.grownBy w' (some g))

set_option maxHeartbeats 1000000 in
theorem askI {w : World} {g : Nat} {l : List Int} {gave : Bool} (p q r : Nat) (least most : Int) (h : Rd w g l gave)
    (h0 : w.cell? ⟨p, 0, none⟩ = some (.pointer (some ⟨g, 0, none⟩))) (h1 : w.cell? ⟨q, 0, none⟩ = some (.int .i64 least)) (h2 : w.cell? ⟨r, 0, none⟩ = some (.int .i64 most)) :
    Calls Try.prog 60 #[.pointer (some ⟨g, 0, none⟩), .func (.func 61) #[] #[.pointer (some ⟨p, 0, none⟩), .pointer (some ⟨q, 0, none⟩), .pointer (some ⟨r, 0, none⟩)]] w (ReadI w g gave (Cd.get least most l)) := by
  have hmf : ∀ (fn : Fn) (first cap : Array Value) (w : World), (Instr.makeFunc fn first cap).run Try.prog w = .ok (.func fn first cap) w := fun _ _ _ _ => rfl
  have hb := below_alloc w (.cells #[.pointer (some ⟨g, 0, none⟩)] 80)
  have H0 := Lib.hid ((hb.cell (p := ⟨p, 0, none⟩) (World.block_lt_of_cell? w _ h0)).trans h0)
  have H1 := Lib.hid ((hb.cell (p := ⟨q, 0, none⟩) (World.block_lt_of_cell? w _ h1)).trans h1)
  have H2 := Lib.hid ((hb.cell (p := ⟨r, 0, none⟩) (World.block_lt_of_cell? w _ h2)).trans h2)
  have HR := Lib.hid (h.below hb)
  have HB := Lib.hid hb
  have HL := Lib.hid h.lt
  have HN := Lib.hid (Whole.new w 80 #[.pointer (some ⟨g, 0, none⟩)])
  clear h h0 h1 h2 hb
  go_enter_defers Try.func60, Try.ntmps60
  go_wp2_with fail
  refine (intf_any p q r least most HR.out H0.out H1.out H2.out).mono ?_
  rintro e w1 (⟨v, r', ho, rfl, hrd, hgr⟩ | ⟨ho, rfl, hrd, hgr⟩)
  · have HX : Hid (ReadI w g gave (Cd.get least most l) (.returned (.int .i64 v)) w1) := Lib.hid (Or.inl ⟨v, r', ho, rfl, hrd, grown_of HB.out hgr⟩)
    clear ho hrd hgr
    go_wp2
    refine leaves_cons (f := 68) (args := #[.pointer (some ⟨w.heap.size, 0, none⟩)]) (by simp) (by simp [go_sem]) ?_
    refine (idleI w.heap.size _).mono ?_
    rintro e u' w'' ⟨rfl, rfl, rfl⟩
    exact ⟨.int .i64 v, by simp [results, Try.results60], HX.out⟩
  · obtain ⟨r', hrd⟩ := hrd
    have hbox := HN.out.grown hgr (by have := HL.out; simp; omega)
    obtain ⟨a', n', c', hwh, htx⟩ := id hrd
    refine leaves_cons (f := 68) (args := #[.pointer (some ⟨w.heap.size, 0, none⟩)]) (by simp) (by simp [go_sem]) ?_
    refine (caughtI w.heap.size g a' n' c' gave [] (.int .i64 20) w1 (hbox.cell 0) hwh).mono ?_
    rintro e u' w'' ⟨rfl, rfl, rfl⟩
    exact ⟨_, results_tmp rfl _ _ _, Or.inr ⟨ho, rfl, hrd.lost, grown_lost (grown_of HB.out hgr) _ _⟩⟩

theorem ask_nilI (v : Value) (w : World) :
    Calls Try.prog 60 #[.pointer none, v] w fun e w' => e = .returned (.int .i64 0) ∧ Below w.heap.size w w' := by
  go_enter_defers Try.func60, Try.ntmps60
  go_wp2
  exact ⟨.int .i64 0, by simp [results, Try.results60], rfl, below_alloc _ _⟩

set_option maxHeartbeats 400000 in
theorem rint_any {w : World} {g : Nat} {l : List Int} {gave : Bool} (least most : Int) (h : Rd w g l gave) :
    Calls Try.prog 53 #[.pointer (some ⟨g, 0, none⟩), .int .i64 least, .int .i64 most] w (ReadI w g gave (Cd.get least most l)) := by
  have hmf : ∀ (fn : Fn) (first cap : Array Value) (w : World), (Instr.makeFunc fn first cap).run Try.prog w = .ok (.func fn first cap) w := fun _ _ _ _ => rfl
  have H := Lib.hid h
  clear h
  go_enter Try.func53, Try.ntmps53
  go_wp2_with fail
  have hb3 := ((below_alloc w (Obj.cells #[.pointer (some ⟨g, 0, none⟩)] 80)).alloc (by simp) (Obj.cells #[.int .i64 least] 2)).alloc (by simp; omega) (Obj.cells #[.int .i64 most] 2)
  have HB := Lib.hid hb3
  clear hb3
  have k0 := ((Whole.new w 80 #[.pointer (some ⟨g, 0, none⟩)]).alloc (Obj.cells #[.int .i64 least] 2)).alloc (Obj.cells #[.int .i64 most] 2)
  have k1 := (Whole.new (w.alloc (Obj.cells #[.pointer (some ⟨g, 0, none⟩)] 80)) 2 #[.int .i64 least]).alloc (Obj.cells #[.int .i64 most] 2)
  have k2 := Whole.new ((w.alloc (Obj.cells #[.pointer (some ⟨g, 0, none⟩)] 80)).alloc (Obj.cells #[.int .i64 least] 2)) 2 #[.int .i64 most]
  rw [size_alloc] at k1
  rw [size_alloc, size_alloc] at k2
  refine (askI w.heap.size (w.heap.size + 1) (w.heap.size + 1 + 1) least most (H.out.below HB.out) ?_ ?_ ?_).mono ?_
  · exact k0.cell 0
  · exact k1.cell 0
  · exact k2.cell 0
  rintro e w1 (⟨v, r', ho, rfl, hrd, hgr⟩ | ⟨ho, rfl, hrd, hgr⟩)
  · have HX : Hid (ReadI w g gave (Cd.get least most l) (.returned (.int .i64 v)) w1) := Lib.hid (Or.inl ⟨v, r', ho, rfl, hrd, grown_of HB.out hgr⟩)
    clear ho hrd hgr
    go_wp2
    go_ret
    exact HX.out
  · have HX : Hid (ReadI w g gave (Cd.get least most l) (.returned (.int .i64 0)) w1) := Lib.hid (Or.inr ⟨ho, rfl, hrd, grown_of HB.out hgr⟩)
    clear ho hrd hgr
    go_wp2
    go_ret
    exact HX.out
theorem rint_nil (least most : Int) (w : World) :
    Calls Try.prog 53 #[.pointer none, .int .i64 least, .int .i64 most] w fun e w' => e = .returned (.int .i64 0) ∧ Below w.heap.size w w' := by
  have hmf : ∀ (fn : Fn) (first cap : Array Value) (w : World), (Instr.makeFunc fn first cap).run Try.prog w = .ok (.func fn first cap) w := fun _ _ _ _ => rfl
  go_enter Try.func53, Try.ntmps53
  go_wp2_with fail
  refine (ask_nilI _ _).mono ?_; rintro e w1 ⟨rfl, hb⟩
  have HB := Lib.hid hb
  clear hb
  go_wp2
  go_ret
  refine ⟨rfl, Below.trans ?_ (HB.out.mono (by simp; omega))⟩
  exact ((below_alloc w _).alloc (by simp) _).alloc (by simp; omega) _
end Go.Proofs.Ytcfchkffanfehaa.Co
namespace Go.Proofs.Ytcfchkffanfehaa.Co
set_option maxRecDepth 20000
open Go.RowKit

/-- The rest, and whether a reader gave up, behind a need. -/
def needRest (is : Bool) (l : List Int) : List Int := if is then l else []
def needGave (is gave : Bool) : Bool := if is then gave else true

/-- What Done answers. -/
def doneOf (l : List Int) (gave : Bool) : Int := if gave = true ∨ l ≠ [] then 20 else 0
set_option maxHeartbeats 400000 in
theorem done_any {w : World} {g : Nat} {l : List Int} {gave : Bool} (h : Rd w g l gave) :
    Calls Try.prog 57 #[.pointer (some ⟨g, 0, none⟩)] w fun e w' => e = .returned (.int .i64 (doneOf l gave)) ∧ w = w' := by
  obtain ⟨a, n, c, hw, ht⟩ := h
  have c0 := hw.cell 0
  have c1 := hw.cell 1
  have hn := ht.1
  simp only [List.getElem?_toArray, List.getElem?_cons_zero, List.getElem?_cons_succ] at c0 c1
  clear hw ht
  have HV : Hid (doneOf l gave = if gave = true ∨ n ≠ 0 then 20 else 0) := Lib.hid (by
    unfold doneOf
    have : l ≠ [] ↔ n ≠ 0 := by rw [← hn]; simp
    simp only [this])
  clear hn
  cases gave with
  | true =>
    go_enter Try.func57, Try.ntmps57
    go_wp2
    go_ret
    rw [HV.out]; exact ⟨rfl, rfl⟩
  | false =>
    by_cases h0 : n = 0
    · have HV2 : Hid (doneOf l false = 0) := Lib.hid (by rw [HV.out]; simp [h0])
      subst h0
      clear HV
      go_enter Try.func57, Try.ntmps57
      go_wp2
      go_ret
      rw [HV2.out]; exact ⟨rfl, rfl⟩
    · have hd : decide ((0 : Int) < (n : Int)) = true := by simp; omega
      have HV2 : Hid (doneOf l false = 20) := Lib.hid (by rw [HV.out]; simp [h0])
      clear HV
      go_enter Try.func57, Try.ntmps57
      go_wp2
      go_ret
      rw [HV2.out]; exact ⟨rfl, rfl⟩
theorem done_nil (w : World) : Calls Try.prog 57 #[.pointer none] w fun e w' => e = .returned (.int .i64 1) ∧ w = w' := by
  go_enter Try.func57, Try.ntmps57
  go_wp2
  go_ret
  exact ⟨rfl, rfl⟩

/-- A new reader of l. -/
def News (w : World) (l : List Int) (e : Ending) (w' : World) : Prop :=
  ∃ g, e = .returned (.pointer (some ⟨g, 0, none⟩)) ∧ w.heap.size ≤ g ∧ Rd w' g l false ∧ Below w.heap.size w w'
set_option maxHeartbeats 400000 in
theorem new_any {w : World} {S : Nat → Prop} {a : Option Addr} {n c : Nat} {l : List Int} (h : Txt w S a n c l) (hn : n ≤ 1099511627776) :
    Calls Try.prog 52 #[.slice a n c] w (News w l) := by
  have hb := h.2.2.1
  have H := Lib.hid h
  have HBY := Lib.hid hb
  clear h hb
  go_enter Try.func52, Try.ntmps52
  go_wp2_with fail
  refine (clone_any S a n c l w H.out hn).mono ?_
  rintro e w1 ⟨v, rfl, hown, hbl⟩
  obtain ⟨a1, c1, rfl, ht⟩ := Txt.own hown HBY.out
  obtain ⟨m, hm⟩ : ∃ m, l.length = m := ⟨_, rfl⟩
  have HX : Hid (News w l (.returned (.pointer (some ⟨w1.heap.size, 0, none⟩))) (w1.alloc (.cells #[.slice a1 m c1, .bool false] 88))) := Lib.hid (by
    refine ⟨w1.heap.size, rfl, hbl.size, ⟨a1, m, c1, Whole.new _ _ _, ?_⟩, hbl.alloc hbl.size _⟩
    rw [← hm]
    exact (ht.weak (S' := (· < w1.heap.size)) (fun b hb _ => hb)).keep (by simp) (fun b hb _ => Below.heap_alloc _ _ _ hb))
  rw [hm]
  clear hown hbl ht hm
  go_wp2
  go_ret
  exact HX.out

/-- What is read of a rest that bytes begin, at most so many. -/
def txtOf (most : Int) (l : List Int) : Option (List Int × List Int) :=
  match Cd.get 0 most l with
  | some (n, r) => if n ≤ r.length then some (r.take n.toNat, r.drop n.toNat) else none
  | none => none
theorem own_base {w : World} {base base' e size n : Nat} {v : Value} {xs : List Value} (h : w.ownsRow base e size v n xs) (hb : base' ≤ base) : w.ownsRow base' e size v n xs := by
  refine ⟨h.1, ?_⟩
  rcases h.2 with h' | ⟨g, cap, cur, h1, h2, h3⟩
  · exact Or.inl h'
  · exact Or.inr ⟨g, cap, cur, h1, by omega, h3⟩
theorem Rd.keep {w w' : World} {g : Nat} {l : List Int} {gave : Bool} (h : Rd w g l gave) (hz : w.heap.size ≤ w'.heap.size) (hk : ∀ b, b < w.heap.size → w'.heap[b]? = w.heap[b]?) : Rd w' g l gave := by
  obtain ⟨a, n, c, hw, ht⟩ := h
  exact ⟨a, n, c, hw.keep (hk _ hw.lt), ht.keep hz (fun b hb _ => hk b hb)⟩

/-- Bytes were read into memory of their own, or given up. -/
def Txd (w : World) (g : Nat) (gave : Bool) (o : Option (List Int × List Int)) (e : Ending) (w' : World) : Prop :=
  (∃ t r v, o = some (t, r) ∧ e = .returned v ∧ w'.ownsRow w.heap.size 5 1 v t.length (nums t) ∧ Rd w' g r gave ∧ w.grownBy w' (some g)) ∨
  (o = none ∧ e = .panicked lost ∧ (∃ r, Rd w' g r gave) ∧ w.grownBy w' (some g))
theorem grown_below {w w1 w' : World} {g : Nat} (hg : w.grownBy w1 (some g)) (hb : Below w1.heap.size w1 w') : w.grownBy w' (some g) :=
  ⟨hb.os.trans hg.os, hb.tape.trans hg.tape, hb.output.trans hg.output, Nat.le_trans hg.size hb.size, fun k hk hne => (hb.block k (Nat.lt_of_lt_of_le hk hg.size)).trans (hg.block k hk hne)⟩

set_option maxHeartbeats 400000 in
theorem textf_any {w : World} {g : Nat} {l : List Int} {gave : Bool} (p q : Nat) (most : Int) (h : Rd w g l gave) (hl : l.length ≤ 1099511627776) (hpg : p ≠ g)
    (h0 : w.cell? ⟨p, 0, none⟩ = some (.pointer (some ⟨g, 0, none⟩))) (h1 : w.cell? ⟨q, 0, none⟩ = some (.int .i64 most)) :
    Calls Try.prog 66 #[.pointer (some ⟨p, 0, none⟩), .pointer (some ⟨q, 0, none⟩)] w (Txd w g gave (txtOf most l)) := by
  have H := Lib.hid h
  have HLT := Lib.hid (World.block_lt_of_cell? w _ h0)
  have H0 := Lib.hid h0
  obtain ⟨O, hO⟩ : ∃ O, txtOf most l = O := ⟨_, rfl⟩
  rw [hO]
  have HO := Lib.hid hO
  clear h hO
  go_enter Try.func66, Try.ntmps66
  go_wp2_with fail
  refine (number_any 0 most H.out).mono ?_
  rintro e w1 (⟨v, r, ho, rfl, hrd, hgr⟩ | ⟨ho, rfl, hrd, hgr⟩)
  · have hv := Cd.get_enc ho H.out.byt
    have hv0 : 0 ≤ v := hv.2.2.1
    have hrl : r.length ≤ 1099511627776 := by have := congrArg List.length hv.2.2.2.2; simp at this; omega
    have c0 : w1.cell? ⟨p, 0, none⟩ = some (.pointer (some ⟨g, 0, none⟩)) := hgr.cell h0 (by simpa using hpg)
    have HOv : Hid ((if v ≤ r.length then some (r.take v.toNat, r.drop v.toNat) else none) = O) := Lib.hid (by have := HO.out; unfold txtOf at this; rw [ho] at this; exact this)
    have HR1 := Lib.hid hrd
    have HG1 := Lib.hid hgr
    clear ho hrd hgr hv h0 h1
    obtain ⟨m, rfl⟩ := Int.eq_ofNat_of_zero_le hv0
    by_cases hm : m ≤ r.length
    · have HV : Hid (O = some (r.take m, r.drop m)) := Lib.hid (by have := HOv.out; rw [if_pos (by omega), Int.toNat_natCast] at this; exact this.symm)
      clear HOv
      go_wp2_with fail
      refine (take_ok m HR1.out hm).mono ?_
      rintro e w2 ⟨a2, c2, rfl, htx, hrd, hgr⟩
      have HT2 := Lib.hid htx
      have HR2 := Lib.hid hrd
      have HG2 := Lib.hid hgr
      clear htx hrd hgr
      go_wp2_with fail
      refine (clone_any _ a2 m c2 _ w2 HT2.out (by omega)).mono ?_
      rintro e w3 ⟨v3, rfl, hown, hbl⟩
      have HX : Hid (Txd w g gave O (.returned v3) w3) := Lib.hid (Or.inl ⟨_, _, v3, HV.out, rfl, own_base hown (Nat.le_trans HG1.out.size HG2.out.size), HR2.out.below hbl, grown_below (grown_trans HG1.out HG2.out) hbl⟩)
      clear hown hbl
      go_wp2
      go_ret
      exact HX.out
    · have HV : Hid (O = none) := Lib.hid (by have := HOv.out; rw [if_neg (by omega)] at this; exact this.symm)
      clear HOv
      go_wp2_with fail
      refine (take_no (m : Int) HR1.out (by omega)).mono ?_
      rintro e w2 ⟨rfl, rfl⟩
      exact ⟨rfl, Or.inr ⟨HV.out, rfl, ⟨_, HR1.out⟩, HG1.out⟩⟩
  · have HV : O = none := by have := HO.out; unfold txtOf at this; rw [ho] at this; exact this.symm
    exact ⟨rfl, Or.inr ⟨HV, rfl, hrd, hgr⟩⟩

/-- Bytes were read, or the reader gave up. -/
def ReadT (w : World) (g : Nat) (gave : Bool) (o : Option (List Int × List Int)) (e : Ending) (w' : World) : Prop :=
  (∃ t r v, o = some (t, r) ∧ e = .returned v ∧ w'.ownsRow w.heap.size 5 1 v t.length (nums t) ∧ Rd w' g r gave ∧ w.grownBy w' (some g)) ∨
  (o = none ∧ e = .returned (.slice none 0 0) ∧ Rd w' g [] true ∧ w.grownBy w' (some g))

set_option maxHeartbeats 1000000 in
theorem askT {w : World} {g : Nat} {l : List Int} {gave : Bool} (p q : Nat) (most : Int) (h : Rd w g l gave) (hl : l.length ≤ 1099511627776) (hpg : p ≠ g)
    (h0 : w.cell? ⟨p, 0, none⟩ = some (.pointer (some ⟨g, 0, none⟩))) (h1 : w.cell? ⟨q, 0, none⟩ = some (.int .i64 most)) :
    Calls Try.prog 65 #[.pointer (some ⟨g, 0, none⟩), .func (.func 66) #[] #[.pointer (some ⟨p, 0, none⟩), .pointer (some ⟨q, 0, none⟩)]] w (ReadT w g gave (txtOf most l)) := by
  have hmf : ∀ (fn : Fn) (first cap : Array Value) (w : World), (Instr.makeFunc fn first cap).run Try.prog w = .ok (.func fn first cap) w := fun _ _ _ _ => rfl
  have hb := below_alloc w (.cells #[.pointer (some ⟨g, 0, none⟩)] 80)
  have H0 := Lib.hid ((hb.cell (p := ⟨p, 0, none⟩) (World.block_lt_of_cell? w _ h0)).trans h0)
  have H1 := Lib.hid ((hb.cell (p := ⟨q, 0, none⟩) (World.block_lt_of_cell? w _ h1)).trans h1)
  have HR := Lib.hid (h.below hb)
  have HB := Lib.hid hb
  have HL := Lib.hid h.lt
  have HN := Lib.hid (Whole.new w 80 #[.pointer (some ⟨g, 0, none⟩)])
  clear h h0 h1 hb
  go_enter_defers Try.func65, Try.ntmps65
  go_wp2_with fail
  refine (textf_any p q most HR.out hl hpg H0.out H1.out).mono ?_
  rintro e w1 (⟨t, r', v, ho, rfl, hown, hrd, hgr⟩ | ⟨ho, rfl, hrd, hgr⟩)
  · have HX : Hid (ReadT w g gave (txtOf most l) (.returned v) w1) := Lib.hid (Or.inl ⟨t, r', v, ho, rfl, own_base hown HB.out.size, hrd, grown_of HB.out hgr⟩)
    clear ho hrd hgr hown
    go_wp2
    refine leaves_cons (f := 73) (args := #[.pointer (some ⟨w.heap.size, 0, none⟩)]) (by simp) (by simp [go_sem]) ?_
    refine (idleT w.heap.size _).mono ?_
    rintro e u' w'' ⟨rfl, rfl, rfl⟩
    exact ⟨v, by simp [results, Try.results65], HX.out⟩
  · obtain ⟨r', hrd⟩ := hrd
    have hbox := HN.out.grown hgr (by have := HL.out; simp; omega)
    obtain ⟨a', n', c', hwh, htx⟩ := id hrd
    refine leaves_cons (f := 73) (args := #[.pointer (some ⟨w.heap.size, 0, none⟩)]) (by simp) (by simp [go_sem]) ?_
    refine (caughtT w.heap.size g a' n' c' gave [] (.int .i64 20) w1 (hbox.cell 0) hwh).mono ?_
    rintro e u' w'' ⟨rfl, rfl, rfl⟩
    exact ⟨_, results_tmp rfl _ _ _, Or.inr ⟨ho, rfl, hrd.lost, grown_lost (grown_of HB.out hgr) _ _⟩⟩
theorem ask_nilT (v : Value) (w : World) :
    Calls Try.prog 65 #[.pointer none, v] w fun e w' => e = .returned (.slice none 0 0) ∧ Below w.heap.size w w' := by
  go_enter_defers Try.func65, Try.ntmps65
  go_wp2
  exact ⟨.slice none 0 0, by simp [results, Try.results65], rfl, below_alloc _ _⟩

set_option maxHeartbeats 400000 in
theorem rtext_any {w : World} {g : Nat} {l : List Int} {gave : Bool} (most : Int) (h : Rd w g l gave) (hl : l.length ≤ 1099511627776) :
    Calls Try.prog 55 #[.pointer (some ⟨g, 0, none⟩), .int .i64 most] w (ReadT w g gave (txtOf most l)) := by
  have hmf : ∀ (fn : Fn) (first cap : Array Value) (w : World), (Instr.makeFunc fn first cap).run Try.prog w = .ok (.func fn first cap) w := fun _ _ _ _ => rfl
  have hgl := h.lt
  have H := Lib.hid h
  clear h
  go_enter Try.func55, Try.ntmps55
  go_wp2_with fail
  have hb3 := (below_alloc w (Obj.cells #[.pointer (some ⟨g, 0, none⟩)] 80)).alloc (by simp) (Obj.cells #[.int .i64 most] 3)
  have HB := Lib.hid hb3
  clear hb3
  have k0 := (Whole.new w 80 #[.pointer (some ⟨g, 0, none⟩)]).alloc (Obj.cells #[.int .i64 most] 3)
  have k1 := Whole.new (w.alloc (Obj.cells #[.pointer (some ⟨g, 0, none⟩)] 80)) 3 #[.int .i64 most]
  rw [size_alloc] at k1
  refine (askT w.heap.size (w.heap.size + 1) most (H.out.below HB.out) hl (by omega) ?_ ?_).mono ?_
  · exact k0.cell 0
  · exact k1.cell 0
  rintro e w1 (⟨t, r', v, ho, rfl, hown, hrd, hgr⟩ | ⟨ho, rfl, hrd, hgr⟩)
  · have HX : Hid (ReadT w g gave (txtOf most l) (.returned v) w1) := Lib.hid (Or.inl ⟨t, r', v, ho, rfl, own_base hown HB.out.size, hrd, grown_of HB.out hgr⟩)
    clear ho hrd hgr hown
    go_wp2
    go_ret
    exact HX.out
  · have HX : Hid (ReadT w g gave (txtOf most l) (.returned (.slice none 0 0)) w1) := Lib.hid (Or.inr ⟨ho, rfl, hrd, grown_of HB.out hgr⟩)
    clear ho hrd hgr
    go_wp2
    go_ret
    exact HX.out
theorem rtext_nil (most : Int) (w : World) :
    Calls Try.prog 55 #[.pointer none, .int .i64 most] w fun e w' => e = .returned (.slice none 0 0) ∧ Below w.heap.size w w' := by
  have hmf : ∀ (fn : Fn) (first cap : Array Value) (w : World), (Instr.makeFunc fn first cap).run Try.prog w = .ok (.func fn first cap) w := fun _ _ _ _ => rfl
  go_enter Try.func55, Try.ntmps55
  go_wp2_with fail
  refine (ask_nilT _ _).mono ?_; rintro e w1 ⟨rfl, hb⟩
  have HB := Lib.hid hb
  clear hb
  go_wp2
  go_ret
  refine ⟨rfl, Below.trans ?_ (HB.out.mono (by simp; omega))⟩
  exact (below_alloc w _).alloc (by simp) _
end Go.Proofs.Ytcfchkffanfehaa.Co
namespace Go.Proofs.Ytcfchkffanfehaa.Co
set_option maxRecDepth 20000
open Go.RowKit

def zero32 : List Int := List.replicate 32 0
theorem info32 : (Try.prog.info? 24).map (·.size) = some 32 := by kernel_rfl
theorem und32 : Try.prog.underlying 24 = some (.array 32 5) := by kernel_rfl
theorem infou8 : (Try.prog.info? 5).map (·.size) = some 1 := by kernel_rfl
theorem Whole.row {w : World} {b : Nat} {t : TypeId} {old : Array Value} (h : Whole w b t old) (cs : Array Value) : Whole (w.setRow b cs) b t cs := setRow_heap w b old cs t (0, 0) h
theorem Whole.rowFar {w : World} {b g : Nat} {t : TypeId} {old : Array Value} (h : Whole w b t old) (hg : b ≠ g) (cs : Array Value) : Whole (w.setRow g cs) b t old := (setRow_other w g b cs hg).trans h
theorem below_row {B g : Nat} {a w : World} (h : Below B a w) (hg : B ≤ g) (cs : Array Value) : Below B a (w.setRow g cs) :=
  h.trans ⟨rfl, rfl, rfl, by simp [World.setRow], fun k hk => setRow_other w g k cs (by omega)⟩
theorem load32 {w : World} {b : Nat} {t : TypeId} {cs : Array Value} (h : Whole w b t cs) (hs : cs.size = 32) : (Instr.loadAt 24 (.pointer (some ⟨b, 0, none⟩))).run Try.prog w = .ok (.agg cs) w := by
  simp only [Instr.loadAt, Instr.sureAddr, Sem.run_bind, Sem.run_pure, Result.andThen]
  exact run_loadVar_row w b t _ cs (0, 0) _ h und32 rfl (by rw [hs]; exact info32)
theorem loadVar32 {w : World} {b : Nat} {t : TypeId} {cs : Array Value} (h : Whole w b t cs) (hs : cs.size = 32) : (loadVar 24 ⟨b, 0, none⟩).run Try.prog w = .ok (.agg cs) w :=
  run_loadVar_row w b t _ cs (0, 0) _ h und32 rfl (by rw [hs]; exact info32)
theorem store32 {w : World} {b : Nat} {t : TypeId} {old cs : Array Value} (h : Whole w b t old) (ho : old.size = 32) (hs : cs.size = 32) (h1 : cs.all (·.oneCell') = true) :
    (Instr.storeAt 24 (.pointer (some ⟨b, 0, none⟩)) (.agg cs)).run Try.prog w = .ok () (w.setRow b cs) := by
  simp only [Instr.storeAt, Instr.sureAddr, Sem.run_bind, Sem.run_pure, Result.andThen]
  exact run_storeVar_row w b t _ old cs h (by rw [hs]; exact info32) (by omega) h1
theorem all_nums (l : List Int) : (nums l).toArray.all (·.oneCell') = true := Array.all_eq_true_iff_forall_mem.2 (fun v hv => nums_one l v (by simpa using hv))

/-- copy of 32 bytes over a whole array, as one step of a region that draws. -/
theorem step_copy32 {w : World} {ops : Array Oper} {o : Oper} {a : Act} {K : Act → World → Prop} {Q : Exit → Act → World → Prop} {E : Prop} (hgd : o.guard = none) (d s : Operand)
    (ho : o.op = .call { callee := .builtin .copy, args := #[d, s], argTypes := #[30, 30] }) (g dCap : Nat) (A : Option Addr) (c : Nat) (S : Nat → Prop) (l : List Int)
    (hd : a.eval d = .slice (some ⟨g, 0, none⟩) 32 dCap) (hs : a.eval s = .slice A 32 c) (hr : Txt w S A 32 c l) (t : TypeId) (cur : Array Value) (hg : Whole w g t cur) (hcur : cur.size = 32)
    (h : K (a.put o.dst (goInt 32)) (w.setRow g (nums l).toArray)) :
    if Region.wanted o (yielded ops a.tmps) = true then Oper.wp Try.prog o a w K Q else E := by
  have hw : Region.wanted o (yielded ops a.tmps) = true := by simp [Region.wanted, hgd]
  rw [if_pos hw]
  have hl : l.length = 32 := hr.1
  obtain ⟨b, off, rfl, _⟩ := hr.cell (k := 0) (by omega)
  have hrun := run_copy_row (P := Try.prog) w 30 30 o.type 5 g 0 32 dCap ⟨b, off, none⟩ 32 c cur t (nums l) Try.underlying30 infou8 hg (by rw [nums_len, hl]; rfl)
    (fun j v hv => by
      have hj : j < l.length := by
        have := (List.getElem?_eq_some_iff.1 hv).1
        rwa [nums_len] at this
      obtain ⟨b', off', he, _, _, hc⟩ := hr.cell (k := j) (by omega)
      injection he with he
      rw [he, Addr.add_lit, hc, ← nums_get l j hj, hv]) (by rw [nums_len]; omega) (nums_one l)
  rw [nums_len, hl, Nat.zero_add, List.take_zero, List.nil_append, List.drop_eq_nil_of_le (by simp; omega), List.append_nil] at hrun
  unfold Oper.wp
  simp [execOp, ho, resolve, invoke, builtin, hd, hs, hrun, Result.andThen]
  exact h

/-- As Rd; the rest lies below block C. -/
def RdB (w : World) (C g : Nat) (l : List Int) (gave : Bool) : Prop := ∃ a n c, Whole w g 88 #[.slice a n c, .bool gave] ∧ Txt w (fun b => b < g ∧ b < C) a n c l
theorem RdB.rd {w : World} {C g : Nat} {l : List Int} {gave : Bool} (h : RdB w C g l gave) : Rd w g l gave := by
  obtain ⟨a, n, c, hw, ht⟩ := h
  exact ⟨a, n, c, hw, ht.weak (fun _ _ h => h.1)⟩
theorem Rd.rdb {w : World} {g : Nat} {l : List Int} {gave : Bool} (h : Rd w g l gave) : RdB w w.heap.size g l gave := by
  obtain ⟨a, n, c, hw, ht⟩ := h
  exact ⟨a, n, c, hw, ht.weak (fun _ hb h => ⟨h, hb⟩)⟩
theorem RdB.below {w w' : World} {C B g : Nat} {l : List Int} {gave : Bool} (h : RdB w C g l gave) (hb : Below B w w') (hC : C ≤ B) (hg : g < B) : RdB w' C g l gave := by
  obtain ⟨a, n, c, hw, ht⟩ := h
  exact ⟨a, n, c, hw.below hb hg, ht.below hb (fun b _ h => by have := h.2; omega)⟩
/-- 32 bytes were read, or given up. -/
def Hsd (w : World) (C g : Nat) (gave : Bool) (l : List Int) (e : Ending) (w' : World) : Prop :=
  (32 ≤ l.length ∧ e = .returned (.agg (nums (l.take 32)).toArray) ∧ RdB w' C g (l.drop 32) gave ∧ w.grownBy w' (some g)) ∨
  (l.length < 32 ∧ e = .panicked lost ∧ (∃ r, Rd w' g r gave) ∧ w.grownBy w' (some g))

theorem results_one_cell {fn : Func} {p : Tmp} {ty : TypeId} (h : fn.results = #[.cell p ty]) (tmps : Array Value) (P : Program) (w : World) (a : Addr) {v : Value} (ht : tmps.getD p undef = .pointer (some a)) (hv : (loadVar ty a).run P w = .ok v w) :
    (results fn tmps).run P w = .ok v w := by
  simp only [results, h]
  simp only [Array.getD_eq_getD_getElem?] at ht
  simp [ht, hv, asAddr]
set_option maxHeartbeats 1000000 in
theorem hashf_ok {w : World} {C g : Nat} {l : List Int} {gave : Bool} (p : Nat) (h : RdB w C g l gave) (hC : C ≤ w.heap.size) (hl : 32 ≤ l.length) (hpg : p ≠ g)
    (h0 : w.cell? ⟨p, 0, none⟩ = some (.pointer (some ⟨g, 0, none⟩))) :
    Calls Try.prog 75 #[.pointer (some ⟨p, 0, none⟩)] w (Hsd w C g gave l) := by
  have hp := World.block_lt_of_cell? w _ h0
  obtain ⟨a, n, c, hw, ht⟩ := h
  have hgl := hw.lt
  have HW := Lib.hid hw
  have HT := Lib.hid ht
  have H0 := Lib.hid h0
  clear hw ht h0
  go_enter Try.func75, Try.ntmps75
  go_wp2
  generalize hz : #[Value.int IntKind.u8 0, Value.int IntKind.u8 0, Value.int IntKind.u8 0, Value.int IntKind.u8 0, Value.int IntKind.u8 0, Value.int IntKind.u8 0, Value.int IntKind.u8 0, Value.int IntKind.u8 0, Value.int IntKind.u8 0, Value.int IntKind.u8 0, Value.int IntKind.u8 0, Value.int IntKind.u8 0, Value.int IntKind.u8 0, Value.int IntKind.u8 0, Value.int IntKind.u8 0, Value.int IntKind.u8 0, Value.int IntKind.u8 0, Value.int IntKind.u8 0, Value.int IntKind.u8 0, Value.int IntKind.u8 0, Value.int IntKind.u8 0, Value.int IntKind.u8 0, Value.int IntKind.u8 0, Value.int IntKind.u8 0, Value.int IntKind.u8 0, Value.int IntKind.u8 0, Value.int IntKind.u8 0, Value.int IntKind.u8 0, Value.int IntKind.u8 0, Value.int IntKind.u8 0, Value.int IntKind.u8 0, Value.int IntKind.u8 0] = z
  have hzs : z.size = 32 := by rw [← hz]; rfl
  clear hz
  have hb2 : Below w.heap.size w ((w.alloc (.cells z 24)).alloc (.cells z 24)) := (below_alloc w _).alloc (by simp) _
  have k1 := (Whole.new w 24 z).alloc (.cells z 24)
  have k2 := Whole.new (w.alloc (.cells z 24)) 24 z
  rw [size_alloc] at k2
  have hw2 := HW.out.below hb2 hgl
  have ht2 := HT.out.below hb2 (fun b _ h => by have := h.2; omega)
  have h02 := (hb2.cell (p := ⟨p, 0, none⟩) hp).trans H0.out
  generalize (w.alloc (.cells z 24)).alloc (.cells z 24) = w2 at *
  have HB2 := Lib.hid hb2
  have K1 := Lib.hid k1
  have K2 := Lib.hid k2
  have HW2 := Lib.hid hw2
  have HT2 := Lib.hid ht2
  clear hb2 k1 k2 hw2 ht2 HW HT H0
  obtain ⟨B, hB⟩ : ∃ B, w.heap.size = B := ⟨_, rfl⟩
  have HBB := Lib.hid hB
  rw [hB] at hp hgl hC HB2 K1 K2
  rw [hB]
  clear hB
  go_region_held3 (fun w' => w'.cell? ⟨p, 0, none⟩ = some (.pointer (some ⟨g, 0, none⟩)))
    (first
      | go_keep
      | exact h03
      | exact h04)
    (first
      | (go_at_call 67
         refine (take_okS (S := fun b => b < g ∧ b < C) 32 (fun _ h => Nat.ne_of_lt h.1) (by exact HW2.out) (by exact HT2.out) hl).mono ?_
         rintro e w3 ⟨a3, c3, a4, n4, c4, rfl, htx, hwh, htr, hgr⟩
         have HTX := Lib.hid htx
         have HWH := Lib.hid hwh
         have HTR := Lib.hid htr
         have HGR := Lib.hid hgr
         have h03 : w3.cell? ⟨p, 0, none⟩ = some (.pointer (some ⟨g, 0, none⟩)) := HGR.out.cell h02 (by simpa using hpg)
         have K23 := Lib.hid (Whole.grown (by exact K2.out) HGR.out (by simp; omega))
         clear htx hwh htr hgr)
      | (refine step_copy32 (by rfl) _ _ (by rfl) (B + 1) _ a3 c3 (fun b => b < g ∧ b < C) (l.take 32) (by rfl) (by rfl) (by exact HTX.out) 24 z (by exact K23.out) hzs ?_
         have h04 : (w3.setRow (B + 1) (nums (l.take 32)).toArray).cell? ⟨p, 0, none⟩ = some (.pointer (some ⟨g, 0, none⟩)) := (cell_setRow_other w3 _ _ _ (by show p ≠ B + 1; omega)).trans h03))
  have hNs : (nums (l.take 32)).toArray.size = 32 := by simp [nums]; omega
  have hNa := all_nums (l.take 32)
  have K4 := Lib.hid (Whole.row K23.out (nums (l.take 32)).toArray)
  have K14 : Hid (Whole (w3.setRow (B + 1) (nums (l.take 32)).toArray) B 24 z) := Lib.hid ((Whole.grown (by exact K1.out) HGR.out (by simp; omega)).rowFar (by omega) _)
  have HW4 : Hid (Whole (w3.setRow (B + 1) (nums (l.take 32)).toArray) g 88 #[.slice a4 n4 c4, .bool gave]) := Lib.hid (HWH.out.rowFar (by omega) _)
  have HB3 : Hid (Below B w3 (w3.setRow (B + 1) (nums (l.take 32)).toArray)) := Lib.hid (below_row (Below.refl _ _) (by omega) _)
  have HT4 := Lib.hid (HTR.out.below HB3.out (fun b _ h => by have := h.2; omega))
  clear h04 h03 h02
  generalize hN : (nums (l.take 32)).toArray = N at *
  have HN := Lib.hid hN
  clear hN
  have KR := Lib.hid (Whole.row K14.out N)
  have HW5 := Lib.hid (HW4.out.rowFar (g := B) (by omega) N)
  have HB4 := Lib.hid (below_row HB3.out (Nat.le_refl B) N)
  have HT5 := Lib.hid (HT4.out.below (below_row (B := B) (Below.refl _ _) (Nat.le_refl B) N) (fun b _ h => by have := h.2; omega))
  generalize w3.setRow (B + 1) N = w4 at *
  go_wp2_with (first
    | ((with_reducible show wpList _ _ _ ((⟨_, Op.load 24 _, _, _, _, _⟩ : Oper) :: _) _ _); refine wpList_load_row rfl _ (.tmp 2) rfl (B + 1) rfl 24 N (0, 0) _ K4.out und32 rfl (by rw [hNs]; exact info32) ?_)
    | ((with_reducible show wpList _ _ _ ((⟨_, Op.store 24 _ _, _, _, _, _⟩ : Oper) :: _) _ _); refine wpList_store_row rfl _ (.tmp 1) (.tmp 7) rfl B N rfl rfl 24 z K14.out (by rw [hNs]; exact info32) (by omega) hNa ?_))
  refine bodyPost_ret (results_one_cell rfl _ _ _ _ rfl (loadVar32 KR.out hNs)) rfl ?_
  · refine Or.inl ⟨hl, by rw [HN.out], ⟨a4, n4, c4, HW5.out, HT5.out⟩, ?_⟩
    have hg := grown_of (by rw [HBB.out]; exact HB2.out.drew) HGR.out
    exact ⟨HB4.out.os.trans hg.os, HB4.out.tape.trans hg.tape, HB4.out.output.trans hg.output, Nat.le_trans hg.size HB4.out.size, fun k hk hne => (HB4.out.block k (by have := HBB.out; omega)).trans (hg.block k hk hne)⟩

set_option maxHeartbeats 1000000 in
theorem hashf_no {w : World} {C g : Nat} {l : List Int} {gave : Bool} (p : Nat) (h : Rd w g l gave) (hl : l.length < 32)
    (h0 : w.cell? ⟨p, 0, none⟩ = some (.pointer (some ⟨g, 0, none⟩))) :
    Calls Try.prog 75 #[.pointer (some ⟨p, 0, none⟩)] w (Hsd w C g gave l) := by
  have hp := World.block_lt_of_cell? w _ h0
  have H := Lib.hid h
  have H0 := Lib.hid h0
  clear h h0
  go_enter Try.func75, Try.ntmps75
  go_wp2
  generalize hz : #[Value.int IntKind.u8 0, Value.int IntKind.u8 0, Value.int IntKind.u8 0, Value.int IntKind.u8 0, Value.int IntKind.u8 0, Value.int IntKind.u8 0, Value.int IntKind.u8 0, Value.int IntKind.u8 0, Value.int IntKind.u8 0, Value.int IntKind.u8 0, Value.int IntKind.u8 0, Value.int IntKind.u8 0, Value.int IntKind.u8 0, Value.int IntKind.u8 0, Value.int IntKind.u8 0, Value.int IntKind.u8 0, Value.int IntKind.u8 0, Value.int IntKind.u8 0, Value.int IntKind.u8 0, Value.int IntKind.u8 0, Value.int IntKind.u8 0, Value.int IntKind.u8 0, Value.int IntKind.u8 0, Value.int IntKind.u8 0, Value.int IntKind.u8 0, Value.int IntKind.u8 0, Value.int IntKind.u8 0, Value.int IntKind.u8 0, Value.int IntKind.u8 0, Value.int IntKind.u8 0, Value.int IntKind.u8 0, Value.int IntKind.u8 0] = z
  clear hz
  have hb2 : Below w.heap.size w ((w.alloc (.cells z 24)).alloc (.cells z 24)) := (below_alloc w _).alloc (by simp) _
  have h2 := H.out.below hb2
  have h02 := (hb2.cell (p := ⟨p, 0, none⟩) hp).trans H0.out
  generalize (w.alloc (.cells z 24)).alloc (.cells z 24) = w2 at *
  have HB2 := Lib.hid hb2
  have HR := Lib.hid h2
  clear hb2 h2
  go_region_dies
  refine (take_no (w := w2.drew) 32 (by exact HR.out) (by omega)).mono ?_
  rintro e w3 ⟨rfl, rfl⟩
  exact ⟨rfl, Or.inr ⟨hl, rfl, ⟨_, by exact HR.out⟩, grown_of HB2.out ⟨rfl, rfl, rfl, Nat.le_refl _, fun _ _ _ => rfl⟩⟩⟩
theorem hashf_any {w : World} {C g : Nat} {l : List Int} {gave : Bool} (p : Nat) (h : RdB w C g l gave) (hC : C ≤ w.heap.size) (hpg : p ≠ g) (h0 : w.cell? ⟨p, 0, none⟩ = some (.pointer (some ⟨g, 0, none⟩))) :
    Calls Try.prog 75 #[.pointer (some ⟨p, 0, none⟩)] w (Hsd w C g gave l) := by
  by_cases hl : 32 ≤ l.length
  · exact hashf_ok p h hC hl hpg h0
  · exact hashf_no p h.rd (by omega) h0

/-- 32 bytes were read, or the reader gave up. -/
def ReadH (w : World) (C g : Nat) (gave : Bool) (l : List Int) (e : Ending) (w' : World) : Prop :=
  (32 ≤ l.length ∧ e = .returned (.agg (nums (l.take 32)).toArray) ∧ RdB w' C g (l.drop 32) gave ∧ w.grownBy w' (some g)) ∨
  (l.length < 32 ∧ e = .returned (.agg (nums zero32).toArray) ∧ RdB w' C g [] true ∧ w.grownBy w' (some g))
theorem Rd.lostB {w : World} {g : Nat} {l : List Int} {gave : Bool} (C : Nat) (h : Rd w g l gave) : RdB ((w.setCell ⟨g, 0, none⟩ (.slice none 0 0)).setCell ⟨g, 1, none⟩ (.bool true)) C g [] true := by
  obtain ⟨a, n, c, hw, ht⟩ := h
  exact ⟨none, 0, 0, (hw.set 0 _).set 1 _, Txt.nil _ _ _ _⟩
theorem RdB.lt {w : World} {C g : Nat} {l : List Int} {gave : Bool} (h : RdB w C g l gave) : g < w.heap.size := h.rd.lt
theorem zero_size : (nums zero32).toArray.size = 32 := by simp [nums, zero32]
theorem take_size {l : List Int} (h : 32 ≤ l.length) : (nums (l.take 32)).toArray.size = 32 := by simp [nums]; omega

set_option maxHeartbeats 1000000 in
theorem askH {w : World} {C g : Nat} {l : List Int} {gave : Bool} (p : Nat) (h : RdB w C g l gave) (hC : C ≤ w.heap.size) (hpg : p ≠ g) (h0 : w.cell? ⟨p, 0, none⟩ = some (.pointer (some ⟨g, 0, none⟩))) :
    Calls Try.prog 74 #[.pointer (some ⟨g, 0, none⟩), .func (.func 75) #[] #[.pointer (some ⟨p, 0, none⟩)]] w (ReadH w C g gave l) := by
  have hmf : ∀ (fn : Fn) (first cap : Array Value) (w : World), (Instr.makeFunc fn first cap).run Try.prog w = .ok (.func fn first cap) w := fun _ _ _ _ => rfl
  have hp := World.block_lt_of_cell? w _ h0
  have hgl := h.lt
  have H := Lib.hid h
  have H0 := Lib.hid h0
  clear h h0
  go_enter_defers Try.func74, Try.ntmps74
  go_wp2_with fail
  generalize hz : #[Value.int IntKind.u8 0, Value.int IntKind.u8 0, Value.int IntKind.u8 0, Value.int IntKind.u8 0, Value.int IntKind.u8 0, Value.int IntKind.u8 0, Value.int IntKind.u8 0, Value.int IntKind.u8 0, Value.int IntKind.u8 0, Value.int IntKind.u8 0, Value.int IntKind.u8 0, Value.int IntKind.u8 0, Value.int IntKind.u8 0, Value.int IntKind.u8 0, Value.int IntKind.u8 0, Value.int IntKind.u8 0, Value.int IntKind.u8 0, Value.int IntKind.u8 0, Value.int IntKind.u8 0, Value.int IntKind.u8 0, Value.int IntKind.u8 0, Value.int IntKind.u8 0, Value.int IntKind.u8 0, Value.int IntKind.u8 0, Value.int IntKind.u8 0, Value.int IntKind.u8 0, Value.int IntKind.u8 0, Value.int IntKind.u8 0, Value.int IntKind.u8 0, Value.int IntKind.u8 0, Value.int IntKind.u8 0, Value.int IntKind.u8 0] = z at *
  have hzz : z = (nums zero32).toArray := by rw [← hz]; rfl
  have hzs : z.size = 32 := by rw [hzz]; exact zero_size
  have HZZ := Lib.hid hzz
  clear hz hzz
  have hb2 : Below w.heap.size w ((w.alloc (.cells #[.pointer (some ⟨g, 0, none⟩)] 80)).alloc (.cells z 24)) := (below_alloc w _).alloc (by simp) _
  have k1 := (Whole.new w 80 #[.pointer (some ⟨g, 0, none⟩)]).alloc (.cells z 24)
  have k2 := Whole.new (w.alloc (.cells #[.pointer (some ⟨g, 0, none⟩)] 80)) 24 z
  rw [size_alloc] at k2
  have h2 := H.out.below hb2 hC hgl
  have h02 := (hb2.cell (p := ⟨p, 0, none⟩) hp).trans H0.out
  generalize (w.alloc (.cells #[.pointer (some ⟨g, 0, none⟩)] 80)).alloc (.cells z 24) = w2 at *
  have HB2 := Lib.hid hb2
  have K1 := Lib.hid k1
  have K2 := Lib.hid k2
  have HR := Lib.hid h2
  have H02 := Lib.hid h02
  clear hb2 k1 k2 h2 h02 H H0
  refine (hashf_any p HR.out (Nat.le_trans hC HB2.out.size) hpg H02.out).mono ?_
  rintro e w1 (⟨hl, rfl, hrd, hgr⟩ | ⟨hl, rfl, hrd, hgr⟩)
  · have K21 := Lib.hid (K2.out.grown hgr (by simp; omega))
    have K11 := Lib.hid (K1.out.grown hgr (by simp; omega))
    have HR1 := Lib.hid hrd
    have HG1 := Lib.hid (grown_of HB2.out hgr)
    have hNs := take_size hl
    have hNa := all_nums (l.take 32)
    clear hrd hgr
    generalize hN : (nums (l.take 32)).toArray = N at *
    have HN := Lib.hid hN
    clear hN
    go_wp2_with ((with_reducible show wpList _ _ _ ((⟨_, Op.store 24 _ _, _, _, _, _⟩ : Oper) :: _) _ _); refine wpList_store_row rfl _ (.tmp 4) (.tmp 10) rfl (w.heap.size + 1) N rfl rfl 24 z K21.out (by rw [hNs]; exact info32) (by omega) hNa ?_)
    have KR := Lib.hid (Whole.row K21.out N)
    have HB3 : Hid (Below (w.heap.size + 1) w1 (w1.setRow (w.heap.size + 1) N)) := Lib.hid (below_row (Below.refl _ _) (Nat.le_refl _) N)
    have HRL := Lib.hid (HR1.out.below HB3.out (by omega) (by omega))
    refine leaves_cons (f := 76) (args := #[.pointer (some ⟨w.heap.size, 0, none⟩)]) (by simp) (by simp [go_sem]) ?_
    refine (idleH w.heap.size _).mono ?_
    rintro e u' w'' ⟨rfl, rfl, rfl⟩
    refine ⟨.agg N, results_one_cell rfl _ _ _ _ rfl (loadVar32 KR.out hNs), Or.inl ⟨hl, by rw [HN.out], HRL.out, ?_⟩⟩
    exact ⟨HB3.out.os.trans HG1.out.os, HB3.out.tape.trans HG1.out.tape, HB3.out.output.trans HG1.out.output, Nat.le_trans HG1.out.size HB3.out.size, fun k hk hne => (HB3.out.block k (by omega)).trans (HG1.out.block k hk hne)⟩
  · obtain ⟨r', hrd⟩ := hrd
    have K21 := Lib.hid (K2.out.grown hgr (by simp; omega))
    have hbox := K1.out.grown hgr (by simp; omega)
    have HG1 := Lib.hid (grown_of HB2.out hgr)
    obtain ⟨a', n', c', hwh, htx⟩ := id hrd
    refine leaves_cons (f := 76) (args := #[.pointer (some ⟨w.heap.size, 0, none⟩)]) (by simp) (by simp [go_sem]) ?_
    refine (caughtH w.heap.size g a' n' c' gave [] (.int .i64 20) w1 (hbox.cell 0) hwh).mono ?_
    rintro e u' w'' ⟨rfl, rfl, rfl⟩
    have KR := (K21.out.far (p := ⟨g, 0, none⟩) (by show w.heap.size + 1 ≠ g; omega) (.slice none 0 0)).far (p := ⟨g, 1, none⟩) (by show w.heap.size + 1 ≠ g; omega) (.bool true)
    exact ⟨.agg z, results_one_cell rfl _ _ _ _ rfl (loadVar32 KR hzs), Or.inr ⟨hl, by rw [HZZ.out], hrd.lostB C, grown_lost HG1.out _ _⟩⟩
end Go.Proofs.Ytcfchkffanfehaa.Co
namespace Go.Proofs.Ytcfchkffanfehaa.Co
set_option maxRecDepth 20000
open Go.RowKit

theorem zero_lit : #[Value.int IntKind.u8 0, Value.int IntKind.u8 0, Value.int IntKind.u8 0, Value.int IntKind.u8 0, Value.int IntKind.u8 0, Value.int IntKind.u8 0, Value.int IntKind.u8 0, Value.int IntKind.u8 0, Value.int IntKind.u8 0, Value.int IntKind.u8 0, Value.int IntKind.u8 0, Value.int IntKind.u8 0, Value.int IntKind.u8 0, Value.int IntKind.u8 0, Value.int IntKind.u8 0, Value.int IntKind.u8 0, Value.int IntKind.u8 0, Value.int IntKind.u8 0, Value.int IntKind.u8 0, Value.int IntKind.u8 0, Value.int IntKind.u8 0, Value.int IntKind.u8 0, Value.int IntKind.u8 0, Value.int IntKind.u8 0, Value.int IntKind.u8 0, Value.int IntKind.u8 0, Value.int IntKind.u8 0, Value.int IntKind.u8 0, Value.int IntKind.u8 0, Value.int IntKind.u8 0, Value.int IntKind.u8 0, Value.int IntKind.u8 0] = (nums zero32).toArray := rfl

set_option maxHeartbeats 1000000 in
theorem ask_nilH (v : Value) (w : World) :
    Calls Try.prog 74 #[.pointer none, v] w fun e w' => e = .returned (.agg (nums zero32).toArray) ∧ Below w.heap.size w w' := by
  have HK : Hid (∀ z, Whole ((w.alloc (.cells #[.pointer none] 80)).alloc (.cells z 24)) (w.heap.size + 1) 24 z) := Lib.hid (fun z => by
    have k2 := Whole.new (w.alloc (.cells #[.pointer none] 80)) 24 z
    rw [size_alloc] at k2
    exact k2)
  have HB : Hid (∀ z, Below w.heap.size w ((w.alloc (.cells #[.pointer none] 80)).alloc (.cells z 24))) := Lib.hid (fun z => (below_alloc w _).alloc (by simp) _)
  go_enter_defers Try.func74, Try.ntmps74
  go_wp2_with (first
    | ((with_reducible show wpList _ _ _ ((⟨_, Op.load 24 _, _, _, _, _⟩ : Oper) :: _) _ _); rw [zero_lit]; refine wpList_load_row rfl _ (.tmp 4) rfl (w.heap.size + 1) rfl 24 _ (0, 0) _ (HK.out _) und32 rfl (by rw [zero_size]; exact info32) ?_)
    | ((with_reducible show wpList _ _ _ ((⟨_, Op.store 24 _ _, _, _, _, _⟩ : Oper) :: _) _ _); refine wpList_store_row rfl _ (.tmp 4) (.tmp 7) rfl (w.heap.size + 1) (nums zero32).toArray rfl rfl 24 (nums zero32).toArray (HK.out _) (by rw [zero_size]; exact info32) rfl (all_nums _) ?_))
  exact ⟨_, results_one_cell rfl _ _ _ _ rfl (loadVar32 (Whole.row (HK.out _) _) zero_size), rfl, below_row (HB.out _) (by omega) _⟩

/-- 32 bytes were read, or the reader gave up. -/
def ReadHR (w : World) (g : Nat) (gave : Bool) (l : List Int) (e : Ending) (w' : World) : Prop :=
  (32 ≤ l.length ∧ e = .returned (.agg (nums (l.take 32)).toArray) ∧ Rd w' g (l.drop 32) gave ∧ w.grownBy w' (some g)) ∨
  (l.length < 32 ∧ e = .returned (.agg (nums zero32).toArray) ∧ Rd w' g [] true ∧ w.grownBy w' (some g))
theorem grown_row {w w1 : World} {g B : Nat} (h : w.grownBy w1 (some g)) (hB : w.heap.size ≤ B) (N : Array Value) : w.grownBy (w1.setRow B N) (some g) := by
  have hb := below_row (Below.refl w.heap.size w1) hB N
  exact ⟨hb.os.trans h.os, hb.tape.trans h.tape, hb.output.trans h.output, Nat.le_trans h.size hb.size, fun k hk hne => (hb.block k hk).trans (h.block k hk hne)⟩

set_option maxHeartbeats 1000000 in
theorem rhash_any {w : World} {g : Nat} {l : List Int} {gave : Bool} (h : Rd w g l gave) :
    Calls Try.prog 72 #[.pointer (some ⟨g, 0, none⟩)] w (ReadHR w g gave l) := by
  have hmf : ∀ (fn : Fn) (first cap : Array Value) (w : World), (Instr.makeFunc fn first cap).run Try.prog w = .ok (.func fn first cap) w := fun _ _ _ _ => rfl
  have hgl := h.lt
  have H := Lib.hid h
  clear h
  go_enter Try.func72, Try.ntmps72
  go_wp2_with fail
  rw [zero_lit]
  have hzs := zero_size
  generalize hz : (nums zero32).toArray = z at *
  have HZ := Lib.hid hz
  clear hz
  have hb2 : Below w.heap.size w ((w.alloc (.cells #[.pointer (some ⟨g, 0, none⟩)] 80)).alloc (.cells z 24)) := (below_alloc w _).alloc (by simp) _
  have k1 := (Whole.new w 80 #[.pointer (some ⟨g, 0, none⟩)]).alloc (.cells z 24)
  have k2 := Whole.new (w.alloc (.cells #[.pointer (some ⟨g, 0, none⟩)] 80)) 24 z
  rw [size_alloc] at k2
  have h2 := H.out.rdb.below hb2 (Nat.le_refl _) hgl
  generalize (w.alloc (.cells #[.pointer (some ⟨g, 0, none⟩)] 80)).alloc (.cells z 24) = w2 at *
  have HB2 := Lib.hid hb2
  have K1 := Lib.hid k1
  have K2 := Lib.hid k2
  have HR := Lib.hid h2
  clear hb2 k1 k2 h2 H
  refine (askH w.heap.size HR.out HB2.out.size (by omega) (K1.out.cell 0)).mono ?_
  rintro e w1 (⟨hl, rfl, hrd, hgr⟩ | ⟨hl, rfl, hrd, hgr⟩)
  · have K21 := Lib.hid (K2.out.grown hgr (by simp; omega))
    have HR1 := Lib.hid hrd
    have HG1 := Lib.hid (grown_of HB2.out hgr)
    have hNs := take_size hl
    have hNa := all_nums (l.take 32)
    clear hrd hgr
    generalize hN : (nums (l.take 32)).toArray = N at *
    have HN := Lib.hid hN
    clear hN
    go_wp2_with ((with_reducible show wpList _ _ _ ((⟨_, Op.store 24 _ _, _, _, _, _⟩ : Oper) :: _) _ _); refine wpList_store_row rfl _ (.tmp 2) (.tmp 5) rfl (w.heap.size + 1) N rfl rfl 24 z K21.out (by rw [hNs]; exact info32) (by omega) hNa ?_)
    refine bodyPost_ret (results_one_cell rfl _ _ _ _ rfl (loadVar32 (Whole.row K21.out N) hNs)) rfl ?_
    exact Or.inl ⟨hl, by rw [HN.out], (HR1.out.below (below_row (Below.refl (w.heap.size + 1) _) (Nat.le_refl _) N) (by omega) (by omega)).rd, grown_row HG1.out (by omega) N⟩
  · have K21 := Lib.hid (K2.out.grown hgr (by simp; omega))
    have HR1 := Lib.hid hrd
    have HG1 := Lib.hid (grown_of HB2.out hgr)
    have hNs := zero_size
    have hNa := all_nums zero32
    clear hrd hgr
    generalize hN : (nums zero32).toArray = N at *
    have HN := Lib.hid hN
    clear hN
    go_wp2_with ((with_reducible show wpList _ _ _ ((⟨_, Op.store 24 _ _, _, _, _, _⟩ : Oper) :: _) _ _); refine wpList_store_row rfl _ (.tmp 2) (.tmp 5) rfl (w.heap.size + 1) N rfl rfl 24 z K21.out (by rw [hNs]; exact info32) (by omega) hNa ?_)
    refine bodyPost_ret (results_one_cell rfl _ _ _ _ rfl (loadVar32 (Whole.row K21.out N) hNs)) rfl ?_
    exact Or.inr ⟨hl, by rw [HN.out], (HR1.out.below (below_row (Below.refl (w.heap.size + 1) _) (Nat.le_refl _) N) (by omega) (by omega)).rd, grown_row HG1.out (by omega) N⟩

set_option maxHeartbeats 1000000 in
theorem rhash_nil (w : World) :
    Calls Try.prog 72 #[.pointer none] w fun e w' => e = .returned (.agg (nums zero32).toArray) ∧ Below w.heap.size w w' := by
  have hmf : ∀ (fn : Fn) (first cap : Array Value) (w : World), (Instr.makeFunc fn first cap).run Try.prog w = .ok (.func fn first cap) w := fun _ _ _ _ => rfl
  go_enter Try.func72, Try.ntmps72
  go_wp2_with fail
  rw [zero_lit]
  have hb2 : Below w.heap.size w ((w.alloc (.cells #[.pointer none] 80)).alloc (.cells (nums zero32).toArray 24)) := (below_alloc w _).alloc (by simp) _
  have k2 := Whole.new (w.alloc (.cells #[.pointer none] 80)) 24 (nums zero32).toArray
  rw [size_alloc] at k2
  have hN := zero_size
  have hA := all_nums zero32
  generalize (w.alloc (.cells #[.pointer none] 80)).alloc (.cells (nums zero32).toArray 24) = w2 at *
  have HB2 := Lib.hid hb2
  have K2 := Lib.hid k2
  clear hb2 k2
  refine (ask_nilH _ _).mono ?_
  rintro e w1 ⟨rfl, hb1⟩
  have K21 := Lib.hid (K2.out.below hb1 K2.out.lt)
  have HB1 := Lib.hid (HB2.out.trans (hb1.mono HB2.out.size))
  clear hb1
  generalize hNN : (nums zero32).toArray = N at *
  have HNN := Lib.hid hNN
  clear hNN
  go_wp2_with ((with_reducible show wpList _ _ _ ((⟨_, Op.store 24 _ _, _, _, _, _⟩ : Oper) :: _) _ _); refine wpList_store_row rfl _ (.tmp 2) (.tmp 5) rfl (w.heap.size + 1) N rfl rfl 24 N K21.out (by rw [hN]; exact info32) rfl hA ?_)
  refine bodyPost_ret (results_one_cell rfl _ _ _ _ rfl (loadVar32 (Whole.row K21.out N) hN)) rfl ?_
  exact ⟨by rw [HNN.out], below_row HB1.out (by omega) N⟩
end Go.Proofs.Ytcfchkffanfehaa.Co
namespace Go.Proofs.Ytcfchkffanfehaa.Co
set_option maxRecDepth 20000
open Go.RowKit

set_option maxHeartbeats 400000 in
theorem twice_any (n : Int) (w : World) (h0 : -9223372036854775808 ≤ n) (h1 : n ≤ 9223372036854775807) :
    Calls Try.prog 49 #[.int .i64 n] w fun e w' => e = .returned (.int .u64 (Cd.fold n : Nat)) ∧ w = w' := by
  by_cases h : n < 0
  · have HV := Lib.hid (fold_neg h)
    go_enter Try.func49, Try.ntmps49
    go_wp2
    go_ret
    exact ⟨ret_u64 HV.out.symm, rfl⟩
  · have HV := Lib.hid (fold_pos h)
    go_enter Try.func49, Try.ntmps49
    go_wp2
    go_ret
    exact ⟨ret_u64 HV.out.symm, rfl⟩

/-- What holds at the head of each round of the document's Int. -/
def RefRel (w : World) (u : Nat) (s3 s4 : Value) (wr : World) : Prop :=
  ∃ (r : Int) (suf : List Int), s3 = .int .u64 r ∧ 0 ≤ r ∧ r ≤ 18446744073709551615 ∧ wr.ownsRow w.heap.size 5 1 s4 suf.length (nums suf) ∧ Cd.Byt suf ∧ Cd.tops r.toNat ++ suf = Cd.encU u ∧ Below w.heap.size w wr

set_option maxHeartbeats 1000000 in
theorem rint_ref (n : Int) (w : World) (h0 : -9223372036854775808 ≤ n) (h1 : n ≤ 9223372036854775807) :
    Calls Try.prog 30 #[.int .i64 n] w (Made w.heap.size w (Cd.num n)) := by
  obtain ⟨i0, hi0, hz0, hz1, hz2⟩ := info_parts u8_info
  have HI := Lib.hid (And.intro hi0 (And.intro hz0 (And.intro hz1 hz2)))
  clear hi0 hz0 hz1 hz2
  go_enter Try.func30, Try.ntmps30
  go_wp2_with fail
  refine (twice_any n _ h0 h1).mono ?_; rintro e w' ⟨rfl, rfl⟩
  obtain ⟨u, hu⟩ : ∃ u : Int, ((Cd.fold n : Nat) : Int) = u := ⟨_, rfl⟩
  have hu0 : 0 ≤ u := by omega
  have hu1 : u ≤ 18446744073709551615 := by have := Cd.fold_lt h0 h1; omega
  rw [hu]
  have HU : Hid (u.toNat = Cd.fold n) := Lib.hid (by omega)
  clear hu
  have HS : Hid (RefRel w (Cd.fold n) (.int .u64 (u / 128)) (.slice (some ⟨w.heap.size, 0, none⟩) 1 1) (w.alloc (.cells #[.int .u8 (u % 128)] 5))) := Lib.hid (by
    refine ⟨u / 128, [u % 128], rfl, by omega, by omega, World.ownsRow_lit w #[.int .u8 (u % 128)] 1 (Nat.le_refl _) (by unfold maxLen; omega) rfl, Cd.byt_cons (by omega) (by omega) Cd.byt_nil, ?_, below_alloc _ _⟩
    rw [← HU.out]
    unfold Cd.encU
    rw [show (u / 128).toNat = u.toNat / 128 by omega, show ((u.toNat % 128 : Nat) : Int) = u % 128 by omega])
  go_wp2
  go_loopw [3, 4] (fun s3 s4 wr => RefRel w (Cd.fold n) s3 s4 wr) (fun r _ _ => (intOf r).toNat)
  case atStart => exact HS.out
  case round =>
    clear HS
    obtain ⟨r, suf, rfl, hr0, hr1, hown, hb, ht, hbl⟩ := hrel
    have HO := Lib.hid hown
    have HB := Lib.hid hb
    have HT := Lib.hid ht
    have HBL := Lib.hid hbl
    clear hown hb ht hbl
    by_cases c : 0 < r
    · have hsl : suf.length ≤ 10 := by
        have h2 := Cd.encU_len (u := Cd.fold n) (Cd.fold_lt h0 h1)
        rw [← HT.out] at h2
        simp at h2; omega
      obtain ⟨a4, c4, rfl, htx⟩ := Txt.own HO.out HB.out
      have HX := Lib.hid htx
      obtain ⟨k, hk⟩ : ∃ k, suf.length = k := ⟨_, rfl⟩
      rw [hk] at HX HO hsl
      rw [hk]
      have HK := Lib.hid hk
      clear htx hk
      go_wp2_with (at_builtin; refine wpList_append_txt _ rfl (.tmp 21) (.tmp 22) 30 rfl w.heap.size 5 i0 (.int .u8 0) 1 Try.underlying30 HI.out.1 HI.out.2.1 HI.out.2.2.1 HI.out.2.2.2 rfl _ 1 [.int .u8 (r % 128 + 128)] rfl ?c1 (w.heap.size ≤ ·) a4 k c4 suf rfl ?c2 ?c3 ?c4 ?c5 ?_)
      case c1 => exact World.ownsRow_lit wr #[.int .u8 (r % 128 + 128)] 1 HBL.out.size (by unfold maxLen; omega) rfl
      case c2 => exact HX.out.keep (by simp) fun b hb _ => Below.heap_alloc _ _ _ hb
      case c3 => unfold maxLen; omega
      case c4 => omega
      case c5 => have := HBL.out.size; simp; omega
      intro v' w2 hown hg _
      have HR : Hid (RefRel w (Cd.fold n) (.int .u64 (r / 128)) v' w2) := Lib.hid (by
        refine ⟨r / 128, (r % 128 + 128) :: suf, rfl, by omega, by omega, ?_, Cd.byt_cons (by omega) (by omega) HB.out, ?_, ?_⟩
        · rw [List.length_cons, HK.out, Nat.add_comm]
          exact hown
        · rw [← HT.out, Cd.tops_pos (u := r.toNat) (by omega), show (r / 128).toNat = r.toNat / 128 by omega, List.append_assoc]
          congr 1
          show _ = ((r.toNat % 128 + 128 : Nat) : Int) :: suf
          congr 1
          omega
        · exact (HBL.out.alloc HBL.out.size _).grown hg (by have := HBL.out.size; simp; omega) (fun k hk => by simp [Value.ownBlock] at hk; have := HBL.out.size; omega))
      clear hown hg
      go_wp2
      exact ⟨HR.out, by simp [intOf]; omega⟩
    · have hr : r = 0 := by omega
      have HV : Hid (suf = Cd.num n) := Lib.hid (by
        have h1 := HT.out
        rw [hr, show (0 : Int).toNat = 0 by rfl, Cd.tops_zero, List.nil_append] at h1
        exact h1)
      go_wp2
      go_ret
      rw [← HV.out]
      exact ⟨_, rfl, HO.out, HBL.out⟩

set_option maxHeartbeats 400000 in
theorem rtext_ref {S : Nat → Prop} {a : Option Addr} {n c : Nat} {l : List Int} {w : World} (h : Txt w S a n c l) (hn : n ≤ 1000000) :
    Calls Try.prog 32 #[.slice a n c] w (Made w.heap.size w (Cd.num l.length ++ l)) := by
  obtain ⟨i0, hi0, hz0, hz1, hz2⟩ := info_parts u8_info
  have HI := Lib.hid (And.intro hi0 (And.intro hz0 (And.intro hz1 hz2)))
  clear hi0 hz0 hz1 hz2
  have hlen := h.1
  rw [hlen]
  have H := Lib.hid h
  have HL := Lib.hid hlen
  clear h hlen
  go_enter Try.func32, Try.ntmps32
  go_wp2_with fail
  refine (rint_ref (n : Int) w (by omega) (by omega)).mono ?_
  rintro e w1 ⟨v, rfl, hown, hbl⟩
  have hnl : (Cd.num (n : Int)).length ≤ 10 := Cd.num_len (by omega) (by omega)
  have HO := Lib.hid hown
  have HB := Lib.hid hbl
  clear hown hbl
  generalize Cd.num (n : Int) = x at *
  go_wp2_with (at_builtin; refine wpList_append_txt _ rfl (.tmp 5) (.tmp 6) 30 rfl w.heap.size 5 i0 (.int .u8 0) 1 Try.underlying30 HI.out.1 HI.out.2.1 HI.out.2.2.1 HI.out.2.2.2 rfl v x.length (nums x) rfl HO.out (· < w.heap.size) a n c l rfl ?c2 ?c3 ?c4 ?c5 ?_)
  case c2 => exact H.out.old.below HB.out (fun _ _ h => h)
  case c3 => unfold maxLen; omega
  case c4 => omega
  case c5 => exact HB.out.size
  intro v' w2 hown hg _
  have HX : Hid (Made w.heap.size w (x ++ l) (.returned v') w2) := Lib.hid (by
    refine ⟨v', rfl, ?_, HB.out.grown hg HB.out.size (own_ge HO.out)⟩
    rw [List.length_append, HL.out, nums_append]
    exact hown)
  clear hown hg
  go_wp2
  go_ret
  exact HX.out
end Go.Proofs.Ytcfchkffanfehaa.Co
set_option linter.unusedSimpArgs false
namespace Go.Proofs.Ytcfchkffanfehaa.Co
set_option maxRecDepth 20000
open Go.RowKit
theorem convert_txt {w : World} {S : Nat → Prop} {a : Option Addr} {n c : Nat} {l : List Int} (h : Txt w S a n c l) : (convert 30 9 (.slice a n c)).run Try.prog w = .ok (.string (strOfNums l)) w := by
  rcases h.2.2.2 with h0 | ⟨b, off, rfl, _, _, hc⟩
  · subst h0
    have hn : n = 0 := h.1.symm
    subst hn
    cases a with
    | none => exact run_convert_bytes_nil w 30 5 Try.underlying30 Try.underlying5 0 c 9 Try.underlying9
    | some ad =>
      rw [run_convert_bytes_string w 30 9 5 _ 0 c Try.underlying30 Try.underlying5 Try.underlying9]
      rw [run_bytesToString w ad 0 c [] rfl]
      rfl
  · exact run_convert_bytes_arg w 30 5 Try.underlying30 Try.underlying5 b off n c l h.1 hc 9 Try.underlying9
set_option linter.unusedSimpArgs false

theorem byt_back {l : List Int} (h : Cd.Byt l) : (l.map fun n => UInt8.ofNat n.toNat).map (fun b => (b.toNat : Int)) = l := by
  induction l with
  | nil => rfl
  | cons x l ih =>
    have hx := h x (by simp)
    have e : ((UInt8.ofNat x.toNat).toNat : Int) = x := by
      rw [UInt8.toNat_ofNat']
      have : x.toNat < 256 := by omega
      omega
    rw [List.map_cons, List.map_cons, ih (fun y hy => h y (by simp [hy])), e]
theorem strOf_inj {x y : List Int} (h : strOfNums x = strOfNums y) (hx : Cd.Byt x) (hy : Cd.Byt y) : x = y := by
  have h1 := congrArg (fun s => s.data.toList.map fun b => (b.toNat : Int)) h
  simp only [strOfNums_data] at h1
  rw [byt_back hx, byt_back hy] at h1
  exact h1
theorem str_toList {x y : List Int} (h : (strOfNums x).toList = (strOfNums y).toList) : strOfNums x = strOfNums y := by
  rw [Lib.strOfNums_toList, Lib.strOfNums_toList] at h
  exact congrArg (fun l => (⟨l.toArray⟩ : ByteArray)) h

theorem own_slice {w : World} {base n : Nat} {v : Value} {l : List Int} (h : w.ownsRow base 5 1 v n (nums l)) (hb : Cd.Byt l) : ∃ a c, v = .slice a n c ∧ Txt w (base ≤ ·) a n c l := Txt.own h hb
theorem slice_to {a : Option Addr} {n c k : Nat} (h1 : k ≤ c) (w : World) : (Instr.slice 30 (.slice a n c) none (some (.int .i64 (k : Int))) none).run Try.prog w = .ok (.slice a k c) w := by
  have hb : (0 : Int) ≤ (k : Int) ∧ (k : Int) ≤ (c : Int) := by omega
  have e : (if c = 0 then a else Option.map (fun x => x.add (0 * 1)) a) = a := by
    split
    · rfl
    · cases a <;> simp [Addr.add]
  have hz : (sizeOf 5).run Try.prog w = .ok 1 w := by
    obtain ⟨i, h1, _, h2, _⟩ := info_parts u8_info
    simp [sizeOf, typeInfo, h1, h2]
  simp only [Instr.slice, Instr.sliceBounds, Instr.sliceBound, Sem.run_bind, Sem.run_pure, Result.andThen_ok, run_underlying Try.underlying30, asIntOf, if_pos hb, hz, Int.toNat_natCast, e, Nat.sub_zero]
def GotN (w : World) (o : Int × Nat) (e : Ending) (w' : World) : Prop := e = .returned (.tuple #[.int .i64 o.1, .int .i64 (o.2 : Int)]) ∧ Below w.heap.size w w'
theorem got_none {w : World} {o : Int × Nat} (h : o = (0, 0)) : GotN w o (.returned (.tuple #[.int .i64 0, .int .i64 0])) w := by
  subst h; exact ⟨rfl, Below.refl _ _⟩
set_option maxHeartbeats 2000000 in
theorem get_ref {S : Nat → Prop} {a : Option Addr} {n c : Nat} {l : List Int} {w : World} (h : Txt w S a n c l) (hn : n ≤ 1000000) :
    Calls Try.prog 40 #[.slice a n c] w (GotN w (Cd.getN l)) := by
  have H := Lib.hid h.old
  have HLN := Lib.hid h.1
  have HB := Lib.hid h.2.2.1
  clear h
  go_enter Try.func40, Try.ntmps40
  go_wp2
  go_loopw [4, 5] (fun v i wr => ∃ k : Nat, k ≤ n ∧ k ≤ 10 ∧ i = .int .i64 k ∧ v = .int .u64 (Cd.acc (l.take k)) ∧ Hid (Cd.High l k ∧ Cd.acc (l.take k) < 18446744073709551616) ∧ wr = w) (fun _ i _ => 10 - (intOf i).toNat)
  case atStart => exact ⟨0, by omega, by omega, rfl, rfl, Lib.hid ⟨fun j hj => by omega, by show (0 : Int) < _; omega⟩, rfl⟩
  case round =>
    obtain ⟨k, hkn, hk10, rfl, rfl, HK, rfl⟩ := hrel
    by_cases hlt : k < n
    · by_cases hlt10 : k < 10
      · have hu0 := Cd.acc_nonneg (l.take k)
        have hd1 : decide ((k : Int) < 10) = true := by simp; omega
        have hd2 : decide (k < n) = true := by simp; omega
        by_cases hbig : 144115188075855872 ≤ Cd.acc (l.take k)
        · have HN := Lib.hid (Cd.getN_none (Cd.parse_big HB.out HK.out.1 hbig))
          have hu1 : Cd.acc (l.take k) ≤ 18446744073709551615 := by have := HK.out.2; omega
          generalize Cd.acc (l.take k) = u at *
          go_wp2
          go_ret2
          exact got_none HN.out
        · obtain ⟨b, off, rfl, _, hblt, c0⟩ := H.out.cell hlt
          have hby := H.out.byte hlt
          have hal := Cd.acc_lt (l := l) (i := k) (by rw [HLN.out]; exact hlt) (by omega)
          obtain ⟨u, hu⟩ : ∃ u, Cd.acc (l.take k) = u := ⟨_, rfl⟩
          obtain ⟨x, hxe⟩ : ∃ x, l.getD k 0 = x := ⟨_, rfl⟩
          rw [hu, hxe] at hal
          rw [hu] at hu0 hbig ⊢
          rw [hxe] at c0 hby
          have HX := Lib.hid hxe
          obtain ⟨v, hv⟩ : ∃ v, u * 128 + x % 128 = v := ⟨_, rfl⟩
          rw [hv] at hal
          have hv0 : 0 ≤ v := by omega
          have hv1 : v ≤ 18446744073709551615 := by rw [hal.1] at hal; omega
          have HV : Hid (Cd.acc (l.take (k + 1)) = v ∧ v < 18446744073709551616) := Lib.hid ⟨hal.1, by omega⟩
          have hu1 : u < 144115188075855872 := by omega
          obtain ⟨hx0, hx1⟩ := hby
          have hm1 : IntKind.u64.wrap (u * 128) = u * 128 := by rw [IntKind.wrap_u64]; omega
          have hm2 : IntKind.u64.wrap (u * 128 + x % 128) = v := by rw [IntKind.wrap_u64, hv]; omega
          have hl1 : (l.take (k + 1)).length = k + 1 := by rw [List.length_take, HLN.out]; omega
          clear hu hxe hal hl1
          by_cases hx : x < 128
          · by_cases hpar : v % 2 = 1
            · have e1 : (v % 2 == 1) = true := by rw [beq_iff_eq]; exact hpar
              have hm := Cd.unfold_range (u := v.toNat) (by omega)
              have HGH := Lib.hid (Cd.getN_here HB.out (by rw [HLN.out]; exact hlt) HK.out.1 (by rw [HX.out]; exact hx) (by rw [HV.out.1]; exact HV.out.2))
              have HU : Hid (Cd.unfold v.toNat = -(v / 2) - 1) := Lib.hid (by unfold Cd.unfold; rw [if_pos (by omega)]; omega)
              have hcv := convert_txt (H.out.take (k + 1) (by omega))
              have hsl : ∀ w, (Instr.slice 30 (.slice (some ⟨b, off, none⟩) n c) none (some (.int .i64 ((k : Int) + 1))) none).run Try.prog w = .ok (.slice (some ⟨b, off, none⟩) (k + 1) c) w := fun w => slice_to (k := k + 1) (by have := H.out.2.1; omega) w
              have esum : IntKind.i64.wrap ((k : Int) + 1) = (k : Int) + 1 := IntWalk.i64_in _ (by omega)
              obtain ⟨s, hs⟩ : ∃ s, strOfNums (l.take (k + 1)) = s := ⟨_, rfl⟩
              rw [hs] at hcv
              have HSS := Lib.hid hs
              have HCV := Lib.hid hcv
              clear hs hcv
              go_wp2
              obtain ⟨m, hme⟩ : ∃ m, Cd.unfold v.toNat = m := ⟨_, rfl⟩
              rw [hme] at hm
              rw [HU.out] at hme
              rw [hme]
              have HME : Hid (Cd.unfold v.toNat = m) := Lib.hid (by rw [HU.out, hme])
              have hcd : (convert 30 9 (.slice (some ⟨b, off, none⟩) (k + 1) c)).run Try.prog wr.drew = .ok (.string s) wr.drew := by
                have := convert_txt (w := wr.drew) (S := fun _ => True) ((H.out.take (k + 1) (by omega)).keep (w' := wr.drew) (Nat.le_refl _) (fun _ _ _ => rfl) |>.weak (fun _ _ _ => trivial))
                rwa [HSS.out] at this
              have HTD : Hid (Txt wr.drew (fun b => b < wr.heap.size) (some ⟨b, off, none⟩) (k + 1) c (l.take (k + 1))) := Lib.hid ((H.out.take (k + 1) (by omega)).keep (w' := wr.drew) (Nat.le_refl _) (fun _ _ _ => rfl))
              have HBD : Hid (Below wr.heap.size wr wr.drew) := Lib.hid (Below.refl _ _).drew
              clear hme
              refine wp_region_held_drew (S := fun w' => (convert 30 9 (.slice (some ⟨b, off, none⟩) (k + 1) c)).run Try.prog w' = .ok (.string s) w') (by kernel_rfl) hcd (fun hHeld => ?_)
              generalize wr.drew = wd at *
              refine wpAnyH_take (i := 0) (v := .int .i64 m) rfl (by kernel_rfl) (by kernel_rfl) (by kernel_rfl) (fun _ _ _ h => h) (Or.inl ⟨by rfl, (by intro w hSw; (try dsimp only at hSw); go_simp)⟩) (by assumption) ?_
              try simp only [Act.put, List.getElem_toArray, List.getElem_cons_zero, List.getElem_cons_succ, List.setIfInBounds_toArray, List.set_cons_zero, List.set_cons_succ]
              refine wpAnyH_take (i := 3) (v := .slice (some ⟨b, off, none⟩) n c) rfl (by kernel_rfl) (by kernel_rfl) (by kernel_rfl) (fun _ _ _ h => h) (Or.inl ⟨by rfl, (by intro w hSw; (try dsimp only at hSw); go_simp)⟩) (by assumption) ?_
              try simp only [Act.put, List.getElem_toArray, List.getElem_cons_zero, List.getElem_cons_succ, List.setIfInBounds_toArray, List.set_cons_zero, List.set_cons_succ]
              refine wpAnyH_take (i := 4) (v := .int .i64 (k : Int)) rfl (by kernel_rfl) (by kernel_rfl) (by kernel_rfl) (fun _ _ _ h => h) (Or.inl ⟨by rfl, (by intro w hSw; (try dsimp only at hSw); go_simp)⟩) (by assumption) ?_
              try simp only [Act.put, List.getElem_toArray, List.getElem_cons_zero, List.getElem_cons_succ, List.setIfInBounds_toArray, List.set_cons_zero, List.set_cons_succ]
              refine wpAnyH_take (i := 5) (v := .int .i64 ((k : Int) + 1)) rfl (by kernel_rfl) (by kernel_rfl) (by kernel_rfl) (fun _ _ _ h => h) (Or.inl ⟨by rfl, (by intro w hSw; (try dsimp only at hSw); go_simp)⟩) (by assumption) ?_
              try simp only [Act.put, List.getElem_toArray, List.getElem_cons_zero, List.getElem_cons_succ, List.setIfInBounds_toArray, List.set_cons_zero, List.set_cons_succ]
              refine wpAnyH_take (i := 6) (v := .slice (some ⟨b, off, none⟩) (k + 1) c) rfl (by kernel_rfl) (by kernel_rfl) (by kernel_rfl) (fun _ _ _ h => h) (Or.inl ⟨by rfl, (by intro w hSw; (try dsimp only at hSw); go_simp)⟩) (by assumption) ?_
              try simp only [Act.put, List.getElem_toArray, List.getElem_cons_zero, List.getElem_cons_succ, List.setIfInBounds_toArray, List.set_cons_zero, List.set_cons_succ]
              refine wpAnyH_take (i := 7) (v := .string s) rfl (by kernel_rfl) (by kernel_rfl) (by kernel_rfl) (fun _ _ _ h => h) (Or.inl ⟨by rfl, (by intro w hSw; (try dsimp only at hSw); go_simp)⟩) (by assumption) ?_
              try simp only [Act.put, List.getElem_toArray, List.getElem_cons_zero, List.getElem_cons_succ, List.setIfInBounds_toArray, List.set_cons_zero, List.set_cons_succ]
              refine wpAnyH_ready (rs := [1]) (by kernel_rfl) (by simp) (AllReadyH.cons rfl (fun K hK => ?_) AllReadyH.nil)
              try simp only [List.getElem_toArray, List.getElem_cons_zero, List.getElem_cons_succ]
              go_simp
              go_at_call 30
              refine (rint_ref m wd hm.1 hm.2).mono ?_
              rintro e w3 ⟨v3, rfl, hown, hbl⟩
              obtain ⟨a3, c3, rfl, htx⟩ := own_slice hown (Cd.byt_num m)
              have hcv3 := convert_txt htx
              have hcb := convert_txt (HTD.out.below hbl (fun _ h _ => h))
              rw [HSS.out] at hcb
              have HB3 : Hid (Below wr.heap.size wr w3) := Lib.hid (HBD.out.trans (hbl.mono HBD.out.size))
              have HBY3 : Hid (Cd.Byt (Cd.num m)) := Lib.hid (Cd.byt_num m)
              generalize (Cd.num m).length = nl at *
              obtain ⟨s3, hs3⟩ : ∃ s3, strOfNums (Cd.num m) = s3 := ⟨_, rfl⟩
              rw [hs3] at hcv3
              have HS3 := Lib.hid hs3
              clear hown hbl htx hs3
              go_wp2_with fail
              refine hK.out _ _ hcb (fun hHeld => ?_)
              clear hK K
              try simp only [Act.put, List.getElem_toArray, List.getElem_cons_zero, List.getElem_cons_succ, List.setIfInBounds_toArray, List.set_cons_zero, List.set_cons_succ]
              refine wpAnyH_ready (rs := [2]) (by kernel_rfl) (by simp) (AllReadyH.cons rfl (fun K hK => ?_) AllReadyH.nil)
              try simp only [List.getElem_toArray, List.getElem_cons_zero, List.getElem_cons_succ]
              go_simp
              refine hK.out _ _ hcb (fun hHeld => ?_)
              clear hK K
              try simp only [Act.put, List.getElem_toArray, List.getElem_cons_zero, List.getElem_cons_succ, List.setIfInBounds_toArray, List.set_cons_zero, List.set_cons_succ]
              by_cases hse : Cd.num m = l.take (k + 1)
              · have hs33 : s3 = s := by rw [← HS3.out, ← HSS.out, hse]
                subst hs33
                have HGE : Hid (Cd.getN l = (m, k + 1)) := Lib.hid (by have := HGH.out; rw [HV.out.1, HME.out, if_pos hse] at this; exact this)
                clear hse
                refine wpAnyH_take (i := 8) (v := .bool false) rfl (by kernel_rfl) (by kernel_rfl) (by kernel_rfl) (fun _ _ _ h => h) (Or.inl ⟨by rfl, (by intro w hSw; (try dsimp only at hSw); go_simp)⟩) (by assumption) ?_
                try simp only [Act.put, List.getElem_toArray, List.getElem_cons_zero, List.getElem_cons_succ, List.setIfInBounds_toArray, List.set_cons_zero, List.set_cons_succ]
                refine wpAnyH_done (by kernel_rfl) ?_ _
                go_wp2
                go_ret2
                exact ⟨by rw [HGE.out]; rfl, HB3.out⟩
              · have hs33 : s3 ≠ s := by
                  intro e
                  rw [← HS3.out, ← HSS.out] at e
                  exact hse (strOf_inj e HBY3.out (Cd.byt_take HB.out _))
                have HGE : Hid (Cd.getN l = (0, 0)) := Lib.hid (by have := HGH.out; rw [HV.out.1, HME.out, if_neg hse] at this; exact this)
                have hne : ¬ s3.toList = s.toList := fun e => hs33 (by rw [← HS3.out, ← HSS.out] at e ⊢; exact str_toList e)
                clear hse hs33
                refine wpAnyH_take (i := 8) (v := .bool true) rfl (by kernel_rfl) (by kernel_rfl) (by kernel_rfl) (fun _ _ _ h => h) (Or.inl ⟨by rfl, (by intro w hSw; (try dsimp only at hSw); go_simp)⟩) (by assumption) ?_
                try simp only [Act.put, List.getElem_toArray, List.getElem_cons_zero, List.getElem_cons_succ, List.setIfInBounds_toArray, List.set_cons_zero, List.set_cons_succ]
                refine wpAnyH_done (by kernel_rfl) ?_ _
                go_wp2
                go_ret2
                exact ⟨by rw [HGE.out]; rfl, HB3.out⟩
            · have e1 : (v % 2 == 1) = false := by rw [beq_eq_false_iff_ne]; exact hpar
              have hm := Cd.unfold_range (u := v.toNat) (by omega)
              have HGH := Lib.hid (Cd.getN_here HB.out (by rw [HLN.out]; exact hlt) HK.out.1 (by rw [HX.out]; exact hx) (by rw [HV.out.1]; exact HV.out.2))
              have HU : Hid (Cd.unfold v.toNat = v / 2) := Lib.hid (by unfold Cd.unfold; rw [if_neg (by omega)]; omega)
              have hcv := convert_txt (H.out.take (k + 1) (by omega))
              have hsl : ∀ w, (Instr.slice 30 (.slice (some ⟨b, off, none⟩) n c) none (some (.int .i64 ((k : Int) + 1))) none).run Try.prog w = .ok (.slice (some ⟨b, off, none⟩) (k + 1) c) w := fun w => slice_to (k := k + 1) (by have := H.out.2.1; omega) w
              have esum : IntKind.i64.wrap ((k : Int) + 1) = (k : Int) + 1 := IntWalk.i64_in _ (by omega)
              obtain ⟨s, hs⟩ : ∃ s, strOfNums (l.take (k + 1)) = s := ⟨_, rfl⟩
              rw [hs] at hcv
              have HSS := Lib.hid hs
              have HCV := Lib.hid hcv
              clear hs hcv
              go_wp2
              obtain ⟨m, hme⟩ : ∃ m, Cd.unfold v.toNat = m := ⟨_, rfl⟩
              rw [hme] at hm
              rw [HU.out] at hme
              rw [hme]
              have HME : Hid (Cd.unfold v.toNat = m) := Lib.hid (by rw [HU.out, hme])
              have hcd : (convert 30 9 (.slice (some ⟨b, off, none⟩) (k + 1) c)).run Try.prog wr.drew = .ok (.string s) wr.drew := by
                have := convert_txt (w := wr.drew) (S := fun _ => True) ((H.out.take (k + 1) (by omega)).keep (w' := wr.drew) (Nat.le_refl _) (fun _ _ _ => rfl) |>.weak (fun _ _ _ => trivial))
                rwa [HSS.out] at this
              have HTD : Hid (Txt wr.drew (fun b => b < wr.heap.size) (some ⟨b, off, none⟩) (k + 1) c (l.take (k + 1))) := Lib.hid ((H.out.take (k + 1) (by omega)).keep (w' := wr.drew) (Nat.le_refl _) (fun _ _ _ => rfl))
              have HBD : Hid (Below wr.heap.size wr wr.drew) := Lib.hid (Below.refl _ _).drew
              clear hme
              refine wp_region_held_drew (S := fun w' => (convert 30 9 (.slice (some ⟨b, off, none⟩) (k + 1) c)).run Try.prog w' = .ok (.string s) w') (by kernel_rfl) hcd (fun hHeld => ?_)
              generalize wr.drew = wd at *
              refine wpAnyH_take (i := 0) (v := .int .i64 m) rfl (by kernel_rfl) (by kernel_rfl) (by kernel_rfl) (fun _ _ _ h => h) (Or.inl ⟨by rfl, (by intro w hSw; (try dsimp only at hSw); go_simp)⟩) (by assumption) ?_
              try simp only [Act.put, List.getElem_toArray, List.getElem_cons_zero, List.getElem_cons_succ, List.setIfInBounds_toArray, List.set_cons_zero, List.set_cons_succ]
              refine wpAnyH_take (i := 3) (v := .slice (some ⟨b, off, none⟩) n c) rfl (by kernel_rfl) (by kernel_rfl) (by kernel_rfl) (fun _ _ _ h => h) (Or.inl ⟨by rfl, (by intro w hSw; (try dsimp only at hSw); go_simp)⟩) (by assumption) ?_
              try simp only [Act.put, List.getElem_toArray, List.getElem_cons_zero, List.getElem_cons_succ, List.setIfInBounds_toArray, List.set_cons_zero, List.set_cons_succ]
              refine wpAnyH_take (i := 4) (v := .int .i64 (k : Int)) rfl (by kernel_rfl) (by kernel_rfl) (by kernel_rfl) (fun _ _ _ h => h) (Or.inl ⟨by rfl, (by intro w hSw; (try dsimp only at hSw); go_simp)⟩) (by assumption) ?_
              try simp only [Act.put, List.getElem_toArray, List.getElem_cons_zero, List.getElem_cons_succ, List.setIfInBounds_toArray, List.set_cons_zero, List.set_cons_succ]
              refine wpAnyH_take (i := 5) (v := .int .i64 ((k : Int) + 1)) rfl (by kernel_rfl) (by kernel_rfl) (by kernel_rfl) (fun _ _ _ h => h) (Or.inl ⟨by rfl, (by intro w hSw; (try dsimp only at hSw); go_simp)⟩) (by assumption) ?_
              try simp only [Act.put, List.getElem_toArray, List.getElem_cons_zero, List.getElem_cons_succ, List.setIfInBounds_toArray, List.set_cons_zero, List.set_cons_succ]
              refine wpAnyH_take (i := 6) (v := .slice (some ⟨b, off, none⟩) (k + 1) c) rfl (by kernel_rfl) (by kernel_rfl) (by kernel_rfl) (fun _ _ _ h => h) (Or.inl ⟨by rfl, (by intro w hSw; (try dsimp only at hSw); go_simp)⟩) (by assumption) ?_
              try simp only [Act.put, List.getElem_toArray, List.getElem_cons_zero, List.getElem_cons_succ, List.setIfInBounds_toArray, List.set_cons_zero, List.set_cons_succ]
              refine wpAnyH_take (i := 7) (v := .string s) rfl (by kernel_rfl) (by kernel_rfl) (by kernel_rfl) (fun _ _ _ h => h) (Or.inl ⟨by rfl, (by intro w hSw; (try dsimp only at hSw); go_simp)⟩) (by assumption) ?_
              try simp only [Act.put, List.getElem_toArray, List.getElem_cons_zero, List.getElem_cons_succ, List.setIfInBounds_toArray, List.set_cons_zero, List.set_cons_succ]
              refine wpAnyH_ready (rs := [1]) (by kernel_rfl) (by simp) (AllReadyH.cons rfl (fun K hK => ?_) AllReadyH.nil)
              try simp only [List.getElem_toArray, List.getElem_cons_zero, List.getElem_cons_succ]
              go_simp
              go_at_call 30
              refine (rint_ref m wd hm.1 hm.2).mono ?_
              rintro e w3 ⟨v3, rfl, hown, hbl⟩
              obtain ⟨a3, c3, rfl, htx⟩ := own_slice hown (Cd.byt_num m)
              have hcv3 := convert_txt htx
              have hcb := convert_txt (HTD.out.below hbl (fun _ h _ => h))
              rw [HSS.out] at hcb
              have HB3 : Hid (Below wr.heap.size wr w3) := Lib.hid (HBD.out.trans (hbl.mono HBD.out.size))
              have HBY3 : Hid (Cd.Byt (Cd.num m)) := Lib.hid (Cd.byt_num m)
              generalize (Cd.num m).length = nl at *
              obtain ⟨s3, hs3⟩ : ∃ s3, strOfNums (Cd.num m) = s3 := ⟨_, rfl⟩
              rw [hs3] at hcv3
              have HS3 := Lib.hid hs3
              clear hown hbl htx hs3
              go_wp2_with fail
              refine hK.out _ _ hcb (fun hHeld => ?_)
              clear hK K
              try simp only [Act.put, List.getElem_toArray, List.getElem_cons_zero, List.getElem_cons_succ, List.setIfInBounds_toArray, List.set_cons_zero, List.set_cons_succ]
              refine wpAnyH_ready (rs := [2]) (by kernel_rfl) (by simp) (AllReadyH.cons rfl (fun K hK => ?_) AllReadyH.nil)
              try simp only [List.getElem_toArray, List.getElem_cons_zero, List.getElem_cons_succ]
              go_simp
              refine hK.out _ _ hcb (fun hHeld => ?_)
              clear hK K
              try simp only [Act.put, List.getElem_toArray, List.getElem_cons_zero, List.getElem_cons_succ, List.setIfInBounds_toArray, List.set_cons_zero, List.set_cons_succ]
              by_cases hse : Cd.num m = l.take (k + 1)
              · have hs33 : s3 = s := by rw [← HS3.out, ← HSS.out, hse]
                subst hs33
                have HGE : Hid (Cd.getN l = (m, k + 1)) := Lib.hid (by have := HGH.out; rw [HV.out.1, HME.out, if_pos hse] at this; exact this)
                clear hse
                refine wpAnyH_take (i := 8) (v := .bool false) rfl (by kernel_rfl) (by kernel_rfl) (by kernel_rfl) (fun _ _ _ h => h) (Or.inl ⟨by rfl, (by intro w hSw; (try dsimp only at hSw); go_simp)⟩) (by assumption) ?_
                try simp only [Act.put, List.getElem_toArray, List.getElem_cons_zero, List.getElem_cons_succ, List.setIfInBounds_toArray, List.set_cons_zero, List.set_cons_succ]
                refine wpAnyH_done (by kernel_rfl) ?_ _
                go_wp2
                go_ret2
                exact ⟨by rw [HGE.out]; rfl, HB3.out⟩
              · have hs33 : s3 ≠ s := by
                  intro e
                  rw [← HS3.out, ← HSS.out] at e
                  exact hse (strOf_inj e HBY3.out (Cd.byt_take HB.out _))
                have HGE : Hid (Cd.getN l = (0, 0)) := Lib.hid (by have := HGH.out; rw [HV.out.1, HME.out, if_neg hse] at this; exact this)
                have hne : ¬ s3.toList = s.toList := fun e => hs33 (by rw [← HS3.out, ← HSS.out] at e ⊢; exact str_toList e)
                clear hse hs33
                refine wpAnyH_take (i := 8) (v := .bool true) rfl (by kernel_rfl) (by kernel_rfl) (by kernel_rfl) (fun _ _ _ h => h) (Or.inl ⟨by rfl, (by intro w hSw; (try dsimp only at hSw); go_simp)⟩) (by assumption) ?_
                try simp only [Act.put, List.getElem_toArray, List.getElem_cons_zero, List.getElem_cons_succ, List.setIfInBounds_toArray, List.set_cons_zero, List.set_cons_succ]
                refine wpAnyH_done (by kernel_rfl) ?_ _
                go_wp2
                go_ret2
                exact ⟨by rw [HGE.out]; rfl, HB3.out⟩
          · have HKN : Hid (Cd.High l (k + 1) ∧ Cd.acc (l.take (k + 1)) < 18446744073709551616) := Lib.hid ⟨Cd.high_snoc HK.out.1 (by rw [HX.out]; omega), by rw [HV.out.1]; exact HV.out.2⟩
            go_wp2
            go_roundw
            case rel => exact ⟨k + 1, by omega, by omega, by go_num, by rw [HV.out.1], HKN, trivial⟩
            case measure => simp [intOf]; omega
      · have hd1 : decide ((k : Int) < 10) = false := by simp; omega
        have hd2 : decide (k < n) = true := by simp; omega
        have HN := Lib.hid (Cd.getN_none (Cd.parse_open HB.out HK.out.1 (Or.inr (by omega))))
        go_wp2
        go_ret2
        exact got_none HN.out
    · have hd2 : decide (k < n) = false := by simp; omega
      have HN := Lib.hid (Cd.getN_none (Cd.parse_open HB.out HK.out.1 (Or.inl (by rw [HLN.out]; omega))))
      go_wp2
      go_ret2
      exact got_none HN.out
end Go.Proofs.Ytcfchkffanfehaa.Co
set_option linter.unusedSimpArgs false
namespace Go.Proofs.Ytcfchkffanfehaa.Co
set_option maxRecDepth 20000
open Go.RowKit
theorem sz_u8' (w : World) : (sizeOf 5).run Try.prog w = .ok 1 w := by
  obtain ⟨i, h1, _, h2, _⟩ := info_parts u8_info
  simp [sizeOf, typeInfo, h1, h2]
theorem slice_in {a : Option Addr} {n c i j : Nat} (h1 : i ≤ j) (h2 : j ≤ c) (w : World) : (Instr.slice 30 (.slice a n c) (some (.int .i64 (i : Int))) (some (.int .i64 (j : Int))) none).run Try.prog w = .ok (.slice (if c = i then a else a.map (·.add i)) (j - i) (c - i)) w := by
  have hb : (0 : Int) ≤ (j : Int) ∧ (j : Int) ≤ (c : Int) := by omega
  have ha : (0 : Int) ≤ (i : Int) ∧ (i : Int) ≤ (j : Int) := by omega
  simp only [Instr.slice, Instr.sliceBounds, Instr.sliceBound, Sem.run_bind, Sem.run_pure, Result.andThen_ok, run_underlying Try.underlying30, asIntOf, if_pos hb, if_pos ha, sz_u8' w, Int.toNat_natCast, Nat.mul_one]
def GotT (w : World) (S : Nat → Prop) (l : List Int) (o : Option (List Int × List Int)) (e : Ending) (w' : World) : Prop :=
  Below w.heap.size w w' ∧ match o with
  | some (t, r) => ∃ a c, e = .returned (.tuple #[.slice a t.length c, .int .i64 ((l.length - r.length : Nat) : Int)]) ∧ Txt w' S a t.length c t ∧ r.length < l.length ∧ r = l.drop (l.length - r.length)
  | none => e = .returned (.tuple #[.slice none 0 0, .int .i64 0])
theorem got_no {w w' : World} {S : Nat → Prop} {l : List Int} {o : Option (List Int × List Int)} (h : o = none) (hb : Below w.heap.size w w') : GotT w S l o (.returned (.tuple #[.slice none 0 0, .int .i64 0])) w' := by
  subst h; exact ⟨hb, rfl⟩
set_option maxHeartbeats 2000000 in
theorem gettext_ref {S : Nat → Prop} {a : Option Addr} {n c : Nat} {l : List Int} {w : World} (most : Int) (h : Txt w S a n c l) (hn : n ≤ 1000000) :
    Calls Try.prog 41 #[.slice a n c, .int .i64 most] w (GotT w S l (txtOf most l)) := by
  have H := Lib.hid h
  have HLN := Lib.hid h.1
  have HB := Lib.hid h.2.2.1
  have hcap : n ≤ c := h.2.1
  clear h
  cases hp : Cd.parse l with
  | none =>
    have HN : Hid (txtOf most l = none) := Lib.hid (by unfold txtOf Cd.get; rw [hp])
    have HG : Hid (Cd.getN l = (0, 0)) := Lib.hid (Cd.getN_none hp)
    clear hp
    go_enter Try.func41, Try.ntmps41
    go_wp2_with fail
    refine (get_ref H.out hn).mono ?_
    rintro e w1 ⟨he, hb⟩
    rw [HG.out] at he
    subst he
    have HB1 := Lib.hid hb
    clear hb
    have e0 : (((0 : Nat) : Int) == 0) = true := by rfl
    go_wp2
    go_ret2
    exact got_no HN.out HB1.out
  | some o =>
    obtain ⟨u, r⟩ := o
    obtain ⟨hu0, hu1, he⟩ := Cd.parse_enc hp HB.out
    have hep := Cd.encU_pos u.toNat
    have hll : n = (Cd.encU u.toNat).length + r.length := by rw [← HLN.out, he, List.length_append]
    obtain ⟨k, hk⟩ : ∃ k, (Cd.encU u.toNat).length = k := ⟨_, rfl⟩
    rw [hk] at hep hll
    have hrd : l.drop k = r := by rw [he, ← hk, List.drop_left]
    have hnr : l.length - r.length = k := by rw [HLN.out]; omega
    obtain ⟨v, hv⟩ : ∃ v, Cd.unfold u.toNat = v := ⟨_, rfl⟩
    have hvr := Cd.unfold_range (u := u.toNat) (by omega)
    rw [hv] at hvr
    have HG : Hid (Cd.getN l = (v, k)) := Lib.hid (by unfold Cd.getN; rw [hp]; simp only []; rw [hv, hnr])
    have HGT : Hid (txtOf most l = if 0 ≤ v ∧ v ≤ most then (if v ≤ r.length then some (r.take v.toNat, r.drop v.toNat) else none) else none) := Lib.hid (by
      unfold txtOf Cd.get
      rw [hp]
      simp only []
      rw [hv]
      by_cases hc : 0 ≤ v ∧ v ≤ most
      · rw [if_pos hc, if_pos hc]
      · rw [if_neg hc, if_neg hc])
    obtain ⟨m, hm⟩ : ∃ m, r.length = m := ⟨_, rfl⟩
    rw [hm] at hll
    have HM := Lib.hid hm
    have HRD := Lib.hid hrd
    have hv0 := hvr.1
    have hv1 := hvr.2
    have hk1 : ((k : Int) == 0) = false := by rw [beq_eq_false_iff_ne]; omega
    have hl1 : n ≤ k + m := by omega
    have hl2 : k + m ≤ n := by omega
    clear hp he hk hnr hv hu0 hu1 hrd hm hvr hll
    by_cases c1 : v < 0
    · have HN : Hid (txtOf most l = none) := Lib.hid (by rw [HGT.out, if_neg (by omega)])
      go_enter Try.func41, Try.ntmps41
      go_wp2_with fail
      refine (get_ref H.out hn).mono ?_
      rintro e w1 ⟨he, hb⟩
      rw [HG.out] at he
      subst he
      have HB1 := Lib.hid hb
      clear hb
      go_wp2
      go_ret2
      exact got_no HN.out HB1.out
    by_cases c2 : most < v
    · have HN : Hid (txtOf most l = none) := Lib.hid (by rw [HGT.out, if_neg (by omega)])
      go_enter Try.func41, Try.ntmps41
      go_wp2_with fail
      refine (get_ref H.out hn).mono ?_
      rintro e w1 ⟨he, hb⟩
      rw [HG.out] at he
      subst he
      have HB1 := Lib.hid hb
      clear hb
      go_wp2
      go_ret2
      exact got_no HN.out HB1.out
    have esub : IntKind.i64.wrap ((n : Int) - (k : Int)) = (n : Int) - (k : Int) := IntWalk.i64_in _ (by omega)
    by_cases c3 : (n : Int) - (k : Int) < v
    · have HN : Hid (txtOf most l = none) := Lib.hid (by rw [HGT.out, if_pos (by omega), if_neg (by rw [HM.out]; omega)])
      go_enter Try.func41, Try.ntmps41
      go_wp2_with fail
      refine (get_ref H.out hn).mono ?_
      rintro e w1 ⟨he, hb⟩
      rw [HG.out] at he
      subst he
      have HB1 := Lib.hid hb
      clear hb
      go_wp2
      go_ret2
      exact got_no HN.out HB1.out
    · obtain ⟨t, rfl⟩ : ∃ t : Nat, v = (t : Int) := ⟨v.toNat, by omega⟩
      have HS : Hid (txtOf most l = some (r.take t, r.drop t)) := Lib.hid (by rw [HGT.out, if_pos (by omega), if_pos (by rw [HM.out]; omega)]; simp)
      obtain ⟨A, hsl, HTT⟩ : ∃ A, (∀ w, (Instr.slice 30 (.slice a n c) (some (.int .i64 (k : Int))) (some (.int .i64 ((k : Int) + (t : Int)))) none).run Try.prog w = .ok (.slice A t (c - k)) w) ∧ Hid (Txt w S A t (c - k) (r.take t)) := by
        refine ⟨if c = k then a else a.map (·.add k), fun w => ?_, Lib.hid ?_⟩
        · have := slice_in (a := a) (n := n) (c := c) (i := k) (j := k + t) (by omega) (by omega) w
          rw [Nat.add_sub_cancel_left] at this
          exact this
        · have := (H.out.drop k (by omega)).take t (by omega)
          rw [HRD.out] at this
          exact this
      have esum : IntKind.i64.wrap ((k : Int) + (t : Int)) = (k : Int) + (t : Int) := IntWalk.i64_in _ (by omega)
      go_enter Try.func41, Try.ntmps41
      go_wp2_with fail
      refine (get_ref H.out hn).mono ?_
      rintro e w1 ⟨he, hb⟩
      rw [HG.out] at he
      subst he
      have HB1 := Lib.hid hb
      clear hb
      go_wp2
      go_ret2
      have hlen : (r.take t).length = t := by rw [List.length_take, HM.out]; omega
      have hlen2 : l.length - (r.drop t).length = k + t := by rw [HLN.out, List.length_drop, HM.out]; omega
      refine ⟨HB1.out, ?_⟩
      rw [HS.out]
      refine ⟨A, c - k, ?_, ?_, by rw [HLN.out, List.length_drop, HM.out]; omega, ?_⟩
      · rw [hlen, hlen2]
        rfl
      · rw [hlen]
        exact HTT.out.below HB1.out (fun _ h _ => h)
      · rw [hlen2, ← HRD.out, List.drop_drop]
end Go.Proofs.Ytcfchkffanfehaa.Co
