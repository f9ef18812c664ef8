/-
  The walks of needed and of Check.
-/
import Derived.Test.YtegdopbiiddamaaEe
namespace Go.Proofs.Ytegdopbiiddamaa
set_option linter.unusedVariables false
set_option linter.unusedSimpArgs false
set_option maxRecDepth 20000
open Go.RowKit
/-- What a plan in block B needs. -/
def fs (B : Nat) : Array Value := #[.func (.func 56) #[] #[.pointer (some ⟨B, 0, none⟩)], .func (.func 58) #[] #[.pointer (some ⟨B, 0, none⟩)], .func (.func 59) #[] #[.pointer (some ⟨B, 0, none⟩)], .func (.func 60) #[] #[.pointer (some ⟨B, 0, none⟩)], .func (.func 62) #[] #[.pointer (some ⟨B, 0, none⟩)], .func (.func 63) #[] #[.pointer (some ⟨B, 0, none⟩)], .func (.func 64) #[] #[.pointer (some ⟨B, 0, none⟩)], .func (.func 66) #[] #[.pointer (some ⟨B, 0, none⟩)], .func (.func 69) #[] #[.pointer (some ⟨B, 0, none⟩)], .func (.func 70) #[] #[.pointer (some ⟨B, 0, none⟩)]]
theorem info10 : (Try.prog.info? 64).map (·.size) = some 10 := by kernel_rfl
theorem und10 : Try.prog.underlying 64 = some (.array 10 27) := by kernel_rfl
def zf : Array Value := #[.nilFunc, .nilFunc, .nilFunc, .nilFunc, .nilFunc, .nilFunc, .nilFunc, .nilFunc, .nilFunc, .nilFunc]
set_option maxHeartbeats 1000000 in
theorem needed_any {w : World} {S : Nat → Prop} {C : Array Value} {p : Dr.P} (h : Cc w S C p) :
    Calls Try.prog 42 #[.agg C] w fun e w' => e = .returned (.agg (fs w.heap.size)) ∧ Box w' (fun b => b < w.heap.size) w.heap.size C p ∧ Below w.heap.size w w' := by
  have hmf : ∀ (fn : Fn) (first cap : Array Value) (w : World), (Instr.makeFunc fn first cap).run Try.prog w = .ok (.func fn first cap) w := fun _ _ _ _ => rfl
  have hb1 := below_alloc w (.cells C 24)
  have hx1 := Box.new h
  have hs1 := size_alloc w (.cells C 24)
  obtain ⟨w1, h1⟩ : ∃ w1, w.alloc (.cells C 24) = w1 := ⟨_, rfl⟩
  rw [h1] at hb1 hx1 hs1
  have H1 := Lib.hid (And.intro h1 (And.intro hb1 (And.intro hx1 hs1)))
  clear h h1 hb1 hx1 hs1
  go_enter Try.func42, Try.ntmps42
  go_upto_region 1 with fail
  rw [H1.out.1, show w.heap.size + 1 = w1.heap.size from H1.out.2.2.2.symm]
  have kw := Whole.new w1 64 zf
  have hb2 := below_alloc w1 (.cells zf 64)
  have HF : Hid (∀ B, (fs B).size = 10 ∧ (fs B).all (·.oneCell') = true) := Lib.hid fun B => ⟨rfl, by simp [fs, Value.oneCell']⟩
  rw [show #[Value.nilFunc, Value.nilFunc, Value.nilFunc, Value.nilFunc, Value.nilFunc, Value.nilFunc, Value.nilFunc, Value.nilFunc, Value.nilFunc, Value.nilFunc] = zf from rfl]
  generalize w1.alloc (.cells zf 64) = w2 at *
  have H2 := Lib.hid (And.intro kw hb2)
  clear kw hb2
  go_wp2_with (first
    | ((with_reducible show wpList _ _ _ ((⟨_, Op.store 64 _ _, _, _, _, _⟩ : Oper) :: _) _ _); refine wpList_store_row rfl _ (.tmp 2) (.tmp 13) rfl w1.heap.size (fs w.heap.size) rfl rfl 64 _ H2.out.1 (by rw [(HF.out _).1]; exact info10) (by rw [(HF.out _).1]; rfl) (HF.out _).2 ?_))
  refine bodyPost_ret (results_one_cell rfl _ _ _ _ rfl (run_loadVar_row _ _ _ _ _ (0, 0) _ (H2.out.1.row _) und10 rfl (by rw [(HF.out _).1]; exact info10))) rfl ?_
  have hB : Below w1.heap.size w1 (w2.setRow w1.heap.size (fs w.heap.size)) := below_row H2.out.2 (Nat.le_refl _) _
  have hX := H1.out.2.2.1
  refine ⟨rfl, ⟨hX.1.below hB hX.1.lt, ?_⟩, H1.out.2.1.trans (hB.mono H1.out.2.1.size)⟩
  exact hX.2.below hB (fun b hb _ => hb)
theorem nd0 {w : World} {S : Nat → Prop} {B : Nat} {C : Array Value} {p : Dr.P} (h : Box w S B C p) (hu : p.upto 0) :
    Calls Try.prog 56 #[.pointer (some ⟨B, 0, none⟩)] w fun e w' => e = .returned (.bool (decide p.g0)) ∧ Below w.heap.size w w' := (need1_any h).mono fun e w' he => ⟨he.1, he.2 ▸ Below.refl _ _⟩
theorem nd1 {w : World} {S : Nat → Prop} {B : Nat} {C : Array Value} {p : Dr.P} (h : Box w S B C p) (hu : p.upto 1) :
    Calls Try.prog 58 #[.pointer (some ⟨B, 0, none⟩)] w fun e w' => e = .returned (.bool (decide p.g1)) ∧ Below w.heap.size w w' := (need2_any h).mono fun e w' he => ⟨he.1, he.2 ▸ Below.refl _ _⟩
theorem nd2 {w : World} {S : Nat → Prop} {B : Nat} {C : Array Value} {p : Dr.P} (h : Box w S B C p) (hu : p.upto 2) :
    Calls Try.prog 59 #[.pointer (some ⟨B, 0, none⟩)] w fun e w' => e = .returned (.bool (decide p.g2)) ∧ Below w.heap.size w w' := (need3_any h).mono fun e w' he => ⟨he.1, he.2 ▸ Below.refl _ _⟩
theorem nd3 {w : World} {S : Nat → Prop} {B : Nat} {C : Array Value} {p : Dr.P} (h : Box w S B C p) (hu : p.upto 3) :
    Calls Try.prog 60 #[.pointer (some ⟨B, 0, none⟩)] w fun e w' => e = .returned (.bool (decide p.g3)) ∧ Below w.heap.size w w' := need4_any h
theorem nd4 {w : World} {S : Nat → Prop} {B : Nat} {C : Array Value} {p : Dr.P} (h : Box w S B C p) (hu : p.upto 4) :
    Calls Try.prog 62 #[.pointer (some ⟨B, 0, none⟩)] w fun e w' => e = .returned (.bool (decide p.g4)) ∧ Below w.heap.size w w' := need5_any h hu.2.2.1 hu.2.2.2
theorem nd5 {w : World} {S : Nat → Prop} {B : Nat} {C : Array Value} {p : Dr.P} (h : Box w S B C p) (hu : p.upto 5) :
    Calls Try.prog 63 #[.pointer (some ⟨B, 0, none⟩)] w fun e w' => e = .returned (.bool (decide p.g5)) ∧ Below w.heap.size w w' := need6_any h hu.2.2.1
theorem nd6 {w : World} {S : Nat → Prop} {B : Nat} {C : Array Value} {p : Dr.P} (h : Box w S B C p) (hu : p.upto 6) :
    Calls Try.prog 64 #[.pointer (some ⟨B, 0, none⟩)] w fun e w' => e = .returned (.bool (decide p.g6)) ∧ Below w.heap.size w w' := (need7_any h hu.1).mono fun e w' he => ⟨he.1, he.2 ▸ Below.refl _ _⟩
theorem nd7 {w : World} {S : Nat → Prop} {B : Nat} {C : Array Value} {p : Dr.P} (h : Box w S B C p) (hu : p.upto 7) :
    Calls Try.prog 66 #[.pointer (some ⟨B, 0, none⟩)] w fun e w' => e = .returned (.bool (decide p.g7)) ∧ Below w.heap.size w w' := need8_any h hu.1 hu.2.2.2.2.2.2
theorem nd8 {w : World} {S : Nat → Prop} {B : Nat} {C : Array Value} {p : Dr.P} (h : Box w S B C p) (hu : p.upto 8) :
    Calls Try.prog 69 #[.pointer (some ⟨B, 0, none⟩)] w fun e w' => e = .returned (.bool (decide p.g8)) ∧ Below w.heap.size w w' := (need9_any h).mono fun e w' he => ⟨he.1, he.2 ▸ Below.refl _ _⟩
theorem nd9 {w : World} {S : Nat → Prop} {B : Nat} {C : Array Value} {p : Dr.P} (h : Box w S B C p) (hu : p.upto 9) :
    Calls Try.prog 70 #[.pointer (some ⟨B, 0, none⟩)] w fun e w' => e = .returned (.bool (decide p.g9)) ∧ Below w.heap.size w w' := (need10_any h).mono fun e w' he => ⟨he.1, he.2 ▸ Below.refl _ _⟩
theorem Dr.P.up0 {p : Dr.P} (hu : p.upto 0) (hg : p.g0) : p.upto 1 := hg
theorem Dr.P.up1 {p : Dr.P} (hu : p.upto 1) (hg : p.g1) : p.upto 2 := ⟨hu, hg⟩
theorem Dr.P.up2 {p : Dr.P} (hu : p.upto 2) (hg : p.g2) : p.upto 3 := ⟨hu.1, hu.2, hg⟩
theorem Dr.P.up3 {p : Dr.P} (hu : p.upto 3) (hg : p.g3) : p.upto 4 := ⟨hu.1, hu.2.1, hu.2.2, hg⟩
theorem Dr.P.up4 {p : Dr.P} (hu : p.upto 4) (hg : p.g4) : p.upto 5 := ⟨hu.1, hu.2.1, hu.2.2.1, hu.2.2.2, hg⟩
theorem Dr.P.up5 {p : Dr.P} (hu : p.upto 5) (hg : p.g5) : p.upto 6 := ⟨hu.1, hu.2.1, hu.2.2.1, hu.2.2.2.1, hu.2.2.2.2, hg⟩
theorem Dr.P.up6 {p : Dr.P} (hu : p.upto 6) (hg : p.g6) : p.upto 7 := ⟨hu.1, hu.2.1, hu.2.2.1, hu.2.2.2.1, hu.2.2.2.2.1, hu.2.2.2.2.2, hg⟩
theorem Dr.P.up7 {p : Dr.P} (hu : p.upto 7) (hg : p.g7) : p.upto 8 := ⟨hu.1, hu.2.1, hu.2.2.1, hu.2.2.2.1, hu.2.2.2.2.1, hu.2.2.2.2.2.1, hu.2.2.2.2.2.2, hg⟩
theorem Dr.P.up8 {p : Dr.P} (hu : p.upto 8) (hg : p.g8) : p.upto 9 := ⟨hu.1, hu.2.1, hu.2.2.1, hu.2.2.2.1, hu.2.2.2.2.1, hu.2.2.2.2.2.1, hu.2.2.2.2.2.2.1, hu.2.2.2.2.2.2.2, hg⟩
theorem Dr.P.up9 {p : Dr.P} (hu : p.upto 9) (hg : p.g9) : p.upto 10 := ⟨hu.1, hu.2.1, hu.2.2.1, hu.2.2.2.1, hu.2.2.2.2.1, hu.2.2.2.2.2.1, hu.2.2.2.2.2.2.1, hu.2.2.2.2.2.2.2.1, hu.2.2.2.2.2.2.2.2, hg⟩
theorem Dr.P.no0 {p : Dr.P} (hg : ¬ p.g0) : ¬ p.ok := fun h => hg h.1
theorem Dr.P.no1 {p : Dr.P} (hg : ¬ p.g1) : ¬ p.ok := fun h => hg h.2.1
theorem Dr.P.no2 {p : Dr.P} (hg : ¬ p.g2) : ¬ p.ok := fun h => hg h.2.2.1
theorem Dr.P.no3 {p : Dr.P} (hg : ¬ p.g3) : ¬ p.ok := fun h => hg h.2.2.2.1
theorem Dr.P.no4 {p : Dr.P} (hg : ¬ p.g4) : ¬ p.ok := fun h => hg h.2.2.2.2.1
theorem Dr.P.no5 {p : Dr.P} (hg : ¬ p.g5) : ¬ p.ok := fun h => hg h.2.2.2.2.2.1
theorem Dr.P.no6 {p : Dr.P} (hg : ¬ p.g6) : ¬ p.ok := fun h => hg h.2.2.2.2.2.2.1
theorem Dr.P.no7 {p : Dr.P} (hg : ¬ p.g7) : ¬ p.ok := fun h => hg h.2.2.2.2.2.2.2.1
theorem Dr.P.no8 {p : Dr.P} (hg : ¬ p.g8) : ¬ p.ok := fun h => hg h.2.2.2.2.2.2.2.2.1
theorem Dr.P.no9 {p : Dr.P} (hg : ¬ p.g9) : ¬ p.ok := fun h => hg h.2.2.2.2.2.2.2.2.2
theorem idx0 (B : Nat) (w : World) : (Instr.index 64 (.agg (fs B)) (.int .i64 0)).run Try.prog w = .ok (.func (.func 56) #[] #[.pointer (some ⟨B, 0, none⟩)]) w := by kernel_rfl
theorem idx1 (B : Nat) (w : World) : (Instr.index 64 (.agg (fs B)) (.int .i64 1)).run Try.prog w = .ok (.func (.func 58) #[] #[.pointer (some ⟨B, 0, none⟩)]) w := by kernel_rfl
theorem idx2 (B : Nat) (w : World) : (Instr.index 64 (.agg (fs B)) (.int .i64 2)).run Try.prog w = .ok (.func (.func 59) #[] #[.pointer (some ⟨B, 0, none⟩)]) w := by kernel_rfl
theorem idx3 (B : Nat) (w : World) : (Instr.index 64 (.agg (fs B)) (.int .i64 3)).run Try.prog w = .ok (.func (.func 60) #[] #[.pointer (some ⟨B, 0, none⟩)]) w := by kernel_rfl
theorem idx4 (B : Nat) (w : World) : (Instr.index 64 (.agg (fs B)) (.int .i64 4)).run Try.prog w = .ok (.func (.func 62) #[] #[.pointer (some ⟨B, 0, none⟩)]) w := by kernel_rfl
theorem idx5 (B : Nat) (w : World) : (Instr.index 64 (.agg (fs B)) (.int .i64 5)).run Try.prog w = .ok (.func (.func 63) #[] #[.pointer (some ⟨B, 0, none⟩)]) w := by kernel_rfl
theorem idx6 (B : Nat) (w : World) : (Instr.index 64 (.agg (fs B)) (.int .i64 6)).run Try.prog w = .ok (.func (.func 64) #[] #[.pointer (some ⟨B, 0, none⟩)]) w := by kernel_rfl
theorem idx7 (B : Nat) (w : World) : (Instr.index 64 (.agg (fs B)) (.int .i64 7)).run Try.prog w = .ok (.func (.func 66) #[] #[.pointer (some ⟨B, 0, none⟩)]) w := by kernel_rfl
theorem idx8 (B : Nat) (w : World) : (Instr.index 64 (.agg (fs B)) (.int .i64 8)).run Try.prog w = .ok (.func (.func 69) #[] #[.pointer (some ⟨B, 0, none⟩)]) w := by kernel_rfl
theorem idx9 (B : Nat) (w : World) : (Instr.index 64 (.agg (fs B)) (.int .i64 9)).run Try.prog w = .ok (.func (.func 70) #[] #[.pointer (some ⟨B, 0, none⟩)]) w := by kernel_rfl
set_option maxHeartbeats 4000000 in
theorem check_any {w : World} {S : Nat → Prop} {C : Array Value} {p : Dr.P} (h : Cc w S C p) :
    Calls Try.prog 22 #[.agg C] w fun e w' => e = .returned (.int .i64 p.chk) ∧ Below w.heap.size w w' := by
  have h11 := h.size
  have hb1 := below_alloc w (.cells C 24)
  have hx1 := Box.new h
  have hs1 := size_alloc w (.cells C 24)
  obtain ⟨r, hr⟩ : ∃ r, p.chk = r := ⟨_, rfl⟩
  rw [hr]
  have HR := Lib.hid hr
  obtain ⟨w1, h1⟩ : ∃ w1, w.alloc (.cells C 24) = w1 := ⟨_, rfl⟩
  rw [h1] at hb1 hx1 hs1
  have H1 := Lib.hid (And.intro h1 (And.intro hb1 (And.intro hx1 hs1)))
  clear h h1 hb1 hx1 hs1 hr
  go_enter Try.func22, Try.ntmps22
  go_upto_region 1 with fail
  rw [H1.out.1]
  go_wp2_with (first
    | ((with_reducible show wpList _ _ _ ((⟨_, Op.load 24 _, _, _, _, _⟩ : Oper) :: _) _ _); refine wpList_load_row rfl _ (.tmp 1) rfl w.heap.size rfl 24 C (0, 0) _ H1.out.2.2.1.1 Try.underlying24 rfl (by rw [h11]; exact info11) ?_)
    | (go_at_call 42; refine (needed_any H1.out.2.2.1.2).mono ?_; rintro e w2 ⟨rfl, hx2, hb2⟩; have H2 := Lib.hid (And.intro hx2 (H1.out.2.1.trans (hb2.mono H1.out.2.1.size))); clear hx2 hb2))
  have HI := Lib.hid (And.intro (show p.upto 0 from trivial) (And.intro (H2.out.1.weak (fun _ _ => trivial)) H2.out.2))
  clear H2
  generalize w1.heap.size = G at *
  go_loopw [2, 7] (fun f i wr => ∃ k : Nat, f = .int .i64 0 ∧ i = .int .i64 (k : Int) ∧ k ≤ 10 ∧ Hid (p.upto k ∧ Box wr (fun _ => True) G C p ∧ Below w.heap.size w wr)) (fun _ i _ => 10 - (intOf i).toNat)
  case atStart => exact ⟨0, rfl, rfl, by omega, HI⟩
  case round =>
    clear HI H1
    obtain ⟨k, rfl, rfl, hk, HU⟩ := hrel
    by_cases e0 : k = 0
    · clear hk
      subst e0
      have hi := idx0 G
      by_cases hg : p.g0
      · have HN : Hid (p.upto 1) := Lib.hid (Dr.P.up0 HU.out.1 hg)
        go_wp2_with (go_at_call 56; refine (nd0 HU.out.2.1 HU.out.1).mono ?_; rintro e w3 ⟨rfl, hb3⟩; rw [decide_eq_true hg])
        have HV := Lib.hid (And.intro HN.out (And.intro ((HU.out.2.1.on hb3).weak (fun _ _ => trivial)) (HU.out.2.2.trans (hb3.mono HU.out.2.2.size))))
        clear hb3
        go_roundw
        case rel => exact ⟨1, rfl, rfl, by omega, HV⟩
        case measure => simp [intOf]
      · have HE : Hid (r = 90) := Lib.hid (HR.out.symm.trans (Dr.P.chk_no (Dr.P.no0 hg)))
        go_wp2_with (go_at_call 56; refine (nd0 HU.out.2.1 HU.out.1).mono ?_; rintro e w3 ⟨rfl, hb3⟩; rw [decide_eq_false hg])
        have HV := Lib.hid (HU.out.2.2.trans (hb3.mono HU.out.2.2.size))
        clear hb3
        go_ret
        exact ⟨ret_i64 HE.out.symm, HV.out⟩
    by_cases e1 : k = 1
    · clear e0
      subst e1
      have hi := idx1 G
      by_cases hg : p.g1
      · have HN : Hid (p.upto 2) := Lib.hid (Dr.P.up1 HU.out.1 hg)
        go_wp2_with (go_at_call 58; refine (nd1 HU.out.2.1 HU.out.1).mono ?_; rintro e w3 ⟨rfl, hb3⟩; rw [decide_eq_true hg])
        have HV := Lib.hid (And.intro HN.out (And.intro ((HU.out.2.1.on hb3).weak (fun _ _ => trivial)) (HU.out.2.2.trans (hb3.mono HU.out.2.2.size))))
        clear hb3
        go_roundw
        case rel => exact ⟨2, rfl, rfl, by omega, HV⟩
        case measure => simp [intOf]
      · have HE : Hid (r = 90) := Lib.hid (HR.out.symm.trans (Dr.P.chk_no (Dr.P.no1 hg)))
        go_wp2_with (go_at_call 58; refine (nd1 HU.out.2.1 HU.out.1).mono ?_; rintro e w3 ⟨rfl, hb3⟩; rw [decide_eq_false hg])
        have HV := Lib.hid (HU.out.2.2.trans (hb3.mono HU.out.2.2.size))
        clear hb3
        go_ret
        exact ⟨ret_i64 HE.out.symm, HV.out⟩
    by_cases e2 : k = 2
    · clear e0 e1
      subst e2
      have hi := idx2 G
      by_cases hg : p.g2
      · have HN : Hid (p.upto 3) := Lib.hid (Dr.P.up2 HU.out.1 hg)
        go_wp2_with (go_at_call 59; refine (nd2 HU.out.2.1 HU.out.1).mono ?_; rintro e w3 ⟨rfl, hb3⟩; rw [decide_eq_true hg])
        have HV := Lib.hid (And.intro HN.out (And.intro ((HU.out.2.1.on hb3).weak (fun _ _ => trivial)) (HU.out.2.2.trans (hb3.mono HU.out.2.2.size))))
        clear hb3
        go_roundw
        case rel => exact ⟨3, rfl, rfl, by omega, HV⟩
        case measure => simp [intOf]
      · have HE : Hid (r = 90) := Lib.hid (HR.out.symm.trans (Dr.P.chk_no (Dr.P.no2 hg)))
        go_wp2_with (go_at_call 59; refine (nd2 HU.out.2.1 HU.out.1).mono ?_; rintro e w3 ⟨rfl, hb3⟩; rw [decide_eq_false hg])
        have HV := Lib.hid (HU.out.2.2.trans (hb3.mono HU.out.2.2.size))
        clear hb3
        go_ret
        exact ⟨ret_i64 HE.out.symm, HV.out⟩
    by_cases e3 : k = 3
    · clear e0 e1 e2
      subst e3
      have hi := idx3 G
      by_cases hg : p.g3
      · have HN : Hid (p.upto 4) := Lib.hid (Dr.P.up3 HU.out.1 hg)
        go_wp2_with (go_at_call 60; refine (nd3 HU.out.2.1 HU.out.1).mono ?_; rintro e w3 ⟨rfl, hb3⟩; rw [decide_eq_true hg])
        have HV := Lib.hid (And.intro HN.out (And.intro ((HU.out.2.1.on hb3).weak (fun _ _ => trivial)) (HU.out.2.2.trans (hb3.mono HU.out.2.2.size))))
        clear hb3
        go_roundw
        case rel => exact ⟨4, rfl, rfl, by omega, HV⟩
        case measure => simp [intOf]
      · have HE : Hid (r = 90) := Lib.hid (HR.out.symm.trans (Dr.P.chk_no (Dr.P.no3 hg)))
        go_wp2_with (go_at_call 60; refine (nd3 HU.out.2.1 HU.out.1).mono ?_; rintro e w3 ⟨rfl, hb3⟩; rw [decide_eq_false hg])
        have HV := Lib.hid (HU.out.2.2.trans (hb3.mono HU.out.2.2.size))
        clear hb3
        go_ret
        exact ⟨ret_i64 HE.out.symm, HV.out⟩
    by_cases e4 : k = 4
    · clear e0 e1 e2 e3
      subst e4
      have hi := idx4 G
      by_cases hg : p.g4
      · have HN : Hid (p.upto 5) := Lib.hid (Dr.P.up4 HU.out.1 hg)
        go_wp2_with (go_at_call 62; refine (nd4 HU.out.2.1 HU.out.1).mono ?_; rintro e w3 ⟨rfl, hb3⟩; rw [decide_eq_true hg])
        have HV := Lib.hid (And.intro HN.out (And.intro ((HU.out.2.1.on hb3).weak (fun _ _ => trivial)) (HU.out.2.2.trans (hb3.mono HU.out.2.2.size))))
        clear hb3
        go_roundw
        case rel => exact ⟨5, rfl, rfl, by omega, HV⟩
        case measure => simp [intOf]
      · have HE : Hid (r = 90) := Lib.hid (HR.out.symm.trans (Dr.P.chk_no (Dr.P.no4 hg)))
        go_wp2_with (go_at_call 62; refine (nd4 HU.out.2.1 HU.out.1).mono ?_; rintro e w3 ⟨rfl, hb3⟩; rw [decide_eq_false hg])
        have HV := Lib.hid (HU.out.2.2.trans (hb3.mono HU.out.2.2.size))
        clear hb3
        go_ret
        exact ⟨ret_i64 HE.out.symm, HV.out⟩
    by_cases e5 : k = 5
    · clear e0 e1 e2 e3 e4
      subst e5
      have hi := idx5 G
      by_cases hg : p.g5
      · have HN : Hid (p.upto 6) := Lib.hid (Dr.P.up5 HU.out.1 hg)
        go_wp2_with (go_at_call 63; refine (nd5 HU.out.2.1 HU.out.1).mono ?_; rintro e w3 ⟨rfl, hb3⟩; rw [decide_eq_true hg])
        have HV := Lib.hid (And.intro HN.out (And.intro ((HU.out.2.1.on hb3).weak (fun _ _ => trivial)) (HU.out.2.2.trans (hb3.mono HU.out.2.2.size))))
        clear hb3
        go_roundw
        case rel => exact ⟨6, rfl, rfl, by omega, HV⟩
        case measure => simp [intOf]
      · have HE : Hid (r = 90) := Lib.hid (HR.out.symm.trans (Dr.P.chk_no (Dr.P.no5 hg)))
        go_wp2_with (go_at_call 63; refine (nd5 HU.out.2.1 HU.out.1).mono ?_; rintro e w3 ⟨rfl, hb3⟩; rw [decide_eq_false hg])
        have HV := Lib.hid (HU.out.2.2.trans (hb3.mono HU.out.2.2.size))
        clear hb3
        go_ret
        exact ⟨ret_i64 HE.out.symm, HV.out⟩
    by_cases e6 : k = 6
    · clear e0 e1 e2 e3 e4 e5
      subst e6
      have hi := idx6 G
      by_cases hg : p.g6
      · have HN : Hid (p.upto 7) := Lib.hid (Dr.P.up6 HU.out.1 hg)
        go_wp2_with (go_at_call 64; refine (nd6 HU.out.2.1 HU.out.1).mono ?_; rintro e w3 ⟨rfl, hb3⟩; rw [decide_eq_true hg])
        have HV := Lib.hid (And.intro HN.out (And.intro ((HU.out.2.1.on hb3).weak (fun _ _ => trivial)) (HU.out.2.2.trans (hb3.mono HU.out.2.2.size))))
        clear hb3
        go_roundw
        case rel => exact ⟨7, rfl, rfl, by omega, HV⟩
        case measure => simp [intOf]
      · have HE : Hid (r = 90) := Lib.hid (HR.out.symm.trans (Dr.P.chk_no (Dr.P.no6 hg)))
        go_wp2_with (go_at_call 64; refine (nd6 HU.out.2.1 HU.out.1).mono ?_; rintro e w3 ⟨rfl, hb3⟩; rw [decide_eq_false hg])
        have HV := Lib.hid (HU.out.2.2.trans (hb3.mono HU.out.2.2.size))
        clear hb3
        go_ret
        exact ⟨ret_i64 HE.out.symm, HV.out⟩
    by_cases e7 : k = 7
    · clear e0 e1 e2 e3 e4 e5 e6
      subst e7
      have hi := idx7 G
      by_cases hg : p.g7
      · have HN : Hid (p.upto 8) := Lib.hid (Dr.P.up7 HU.out.1 hg)
        go_wp2_with (go_at_call 66; refine (nd7 HU.out.2.1 HU.out.1).mono ?_; rintro e w3 ⟨rfl, hb3⟩; rw [decide_eq_true hg])
        have HV := Lib.hid (And.intro HN.out (And.intro ((HU.out.2.1.on hb3).weak (fun _ _ => trivial)) (HU.out.2.2.trans (hb3.mono HU.out.2.2.size))))
        clear hb3
        go_roundw
        case rel => exact ⟨8, rfl, rfl, by omega, HV⟩
        case measure => simp [intOf]
      · have HE : Hid (r = 90) := Lib.hid (HR.out.symm.trans (Dr.P.chk_no (Dr.P.no7 hg)))
        go_wp2_with (go_at_call 66; refine (nd7 HU.out.2.1 HU.out.1).mono ?_; rintro e w3 ⟨rfl, hb3⟩; rw [decide_eq_false hg])
        have HV := Lib.hid (HU.out.2.2.trans (hb3.mono HU.out.2.2.size))
        clear hb3
        go_ret
        exact ⟨ret_i64 HE.out.symm, HV.out⟩
    by_cases e8 : k = 8
    · clear e0 e1 e2 e3 e4 e5 e6 e7
      subst e8
      have hi := idx8 G
      by_cases hg : p.g8
      · have HN : Hid (p.upto 9) := Lib.hid (Dr.P.up8 HU.out.1 hg)
        go_wp2_with (go_at_call 69; refine (nd8 HU.out.2.1 HU.out.1).mono ?_; rintro e w3 ⟨rfl, hb3⟩; rw [decide_eq_true hg])
        have HV := Lib.hid (And.intro HN.out (And.intro ((HU.out.2.1.on hb3).weak (fun _ _ => trivial)) (HU.out.2.2.trans (hb3.mono HU.out.2.2.size))))
        clear hb3
        go_roundw
        case rel => exact ⟨9, rfl, rfl, by omega, HV⟩
        case measure => simp [intOf]
      · have HE : Hid (r = 90) := Lib.hid (HR.out.symm.trans (Dr.P.chk_no (Dr.P.no8 hg)))
        go_wp2_with (go_at_call 69; refine (nd8 HU.out.2.1 HU.out.1).mono ?_; rintro e w3 ⟨rfl, hb3⟩; rw [decide_eq_false hg])
        have HV := Lib.hid (HU.out.2.2.trans (hb3.mono HU.out.2.2.size))
        clear hb3
        go_ret
        exact ⟨ret_i64 HE.out.symm, HV.out⟩
    by_cases e9 : k = 9
    · clear e0 e1 e2 e3 e4 e5 e6 e7 e8
      subst e9
      have hi := idx9 G
      by_cases hg : p.g9
      · have HN : Hid (p.upto 10) := Lib.hid (Dr.P.up9 HU.out.1 hg)
        go_wp2_with (go_at_call 70; refine (nd9 HU.out.2.1 HU.out.1).mono ?_; rintro e w3 ⟨rfl, hb3⟩; rw [decide_eq_true hg])
        have HV := Lib.hid (And.intro HN.out (And.intro ((HU.out.2.1.on hb3).weak (fun _ _ => trivial)) (HU.out.2.2.trans (hb3.mono HU.out.2.2.size))))
        clear hb3
        go_roundw
        case rel => exact ⟨10, rfl, rfl, by omega, HV⟩
        case measure => simp [intOf]
      · have HE : Hid (r = 90) := Lib.hid (HR.out.symm.trans (Dr.P.chk_no (Dr.P.no9 hg)))
        go_wp2_with (go_at_call 70; refine (nd9 HU.out.2.1 HU.out.1).mono ?_; rintro e w3 ⟨rfl, hb3⟩; rw [decide_eq_false hg])
        have HV := Lib.hid (HU.out.2.2.trans (hb3.mono HU.out.2.2.size))
        clear hb3
        go_ret
        exact ⟨ret_i64 HE.out.symm, HV.out⟩
    have e10 : k = 10 := by omega
    clear e0 e1 e2 e3 e4 e5 e6 e7 e8 e9
    subst e10
    have HE : Hid (r = 0) := Lib.hid (HR.out.symm.trans (Dr.P.chk_ok HU.out.1))
    go_wp2
    go_ret
    exact ⟨ret_i64 HE.out.symm, HU.out.2.2⟩
end Go.Proofs.Ytegdopbiiddamaa
