/-
  More walks of package code's Reader: Need, Done, New, Text.
-/
import Derived.Test.YtkmkccdihoaefaaRc
namespace Go.Proofs.Ytkmkccdihoaefaa
open Go.RowKit

theorem needf_ok (q : Nat) (w : World) (h : w.cell? ⟨q, 0, none⟩ = some (.bool true)) :
    Calls Try.prog 37 #[.pointer (some ⟨q, 0, none⟩)] w fun e w' => e = .returned (.bool true) ∧ w = w' := by
  go_enter Try.func37, Try.ntmps37
  go_wp2_with (go_at_call 38; refine (must_ok _).mono ?_; rintro e w' ⟨rfl, rfl⟩)
  go_ret
  exact ⟨rfl, rfl⟩
theorem needf_no (q : Nat) (w : World) (h : w.cell? ⟨q, 0, none⟩ = some (.bool false)) :
    Calls Try.prog 37 #[.pointer (some ⟨q, 0, none⟩)] w fun e w' => e = .panicked lost ∧ w = w' := by
  go_enter Try.func37, Try.ntmps37
  go_wp2_with (go_at_call 38; refine (must_no _).mono ?_; rintro e w' ⟨rfl, rfl⟩)
  exact ⟨rfl, rfl, rfl⟩

/-- The rest, and whether a reader gave up, behind a need. -/
def needRest (is : Bool) (l : List Int) : List Int := if is then l else []
def needGave (is gave : Bool) : Bool := if is then gave else true

set_option maxHeartbeats 1000000 in
theorem askN {w : World} {g : Nat} {l : List Int} {gave : Bool} (q : Nat) (is : Bool) (h : Rd w g l gave) (h0 : w.cell? ⟨q, 0, none⟩ = some (.bool is)) :
    Calls Try.prog 36 #[.pointer (some ⟨g, 0, none⟩), .func (.func 37) #[] #[.pointer (some ⟨q, 0, none⟩)]] w fun e w' =>
      e = .returned (.bool is) ∧ Rd w' g (needRest is l) (needGave is gave) ∧ w.grownBy w' (some g) := by
  have hmf : ∀ (fn : Fn) (first cap : Array Value) (w : World), (Instr.makeFunc fn first cap).run Try.prog w = .ok (.func fn first cap) w := fun _ _ _ _ => rfl
  have hb := below_alloc w (.cells #[.pointer (some ⟨g, 0, none⟩)] 47)
  have H0 := Lib.hid ((hb.cell (p := ⟨q, 0, none⟩) (World.block_lt_of_cell? w _ h0)).trans h0)
  have HR := Lib.hid (h.below hb)
  have HB := Lib.hid hb
  have HN := Lib.hid (Whole.new w 47 #[.pointer (some ⟨g, 0, none⟩)])
  clear h h0 hb
  cases is with
  | true =>
    go_enter_defers Try.func36, Try.ntmps36
    go_wp2_with fail
    refine (needf_ok q _ H0.out).mono ?_
    rintro e w1 ⟨rfl, rfl⟩
    go_wp2
    refine leaves_cons (f := 47) (args := #[.pointer (some ⟨w.heap.size, 0, none⟩)]) (by simp) (by simp [go_sem]) ?_
    refine (idleN w.heap.size _).mono ?_
    rintro e u' w'' ⟨rfl, rfl, rfl⟩
    exact ⟨.bool true, by simp [results, Try.results36], rfl, HR.out, grown_of HB.out (World.grownBy.refl _ _)⟩
  | false =>
    go_enter_defers Try.func36, Try.ntmps36
    go_wp2_with fail
    refine (needf_no q _ H0.out).mono ?_
    rintro e w1 ⟨rfl, rfl⟩
    obtain ⟨a', n', c', hwh, htx⟩ := id HR.out
    refine leaves_cons (f := 47) (args := #[.pointer (some ⟨w.heap.size, 0, none⟩)]) (by simp) (by simp [go_sem]) ?_
    refine (caughtN w.heap.size g a' n' c' gave [] (.int .i64 20) _ (HN.out.cell 0) hwh).mono ?_
    rintro e u' w'' ⟨rfl, rfl, rfl⟩
    exact ⟨_, results_tmp rfl _ _ _, rfl, HR.out.lost, grown_lost (grown_of HB.out (World.grownBy.refl _ _)) _ _⟩
theorem ask_nilN (v : Value) (w : World) :
    Calls Try.prog 36 #[.pointer none, v] w fun e w' => e = .returned (.bool false) ∧ Below w.heap.size w w' := by
  go_enter_defers Try.func36, Try.ntmps36
  go_wp2
  exact ⟨.bool false, by simp [results, Try.results36], rfl, below_alloc _ _⟩

set_option maxHeartbeats 400000 in
theorem need_any {w : World} {g : Nat} {l : List Int} {gave : Bool} (is : Bool) (h : Rd w g l gave) :
    Calls Try.prog 23 #[.pointer (some ⟨g, 0, none⟩), .bool is] w fun e w' =>
      e = .returned (.tuple #[]) ∧ Rd w' g (needRest is l) (needGave is gave) ∧ w.grownBy w' (some g) := by
  have hmf : ∀ (fn : Fn) (first cap : Array Value) (w : World), (Instr.makeFunc fn first cap).run Try.prog w = .ok (.func fn first cap) w := fun _ _ _ _ => rfl
  have HB := Lib.hid (below_alloc w (Obj.cells #[.bool is] 4))
  have HR := Lib.hid (h.below HB.out)
  have HN := Lib.hid (Whole.new w 4 #[.bool is])
  clear h
  go_enter Try.func23, Try.ntmps23
  go_wp2_with fail
  refine (askN w.heap.size is HR.out (HN.out.cell 0)).mono ?_
  rintro e w1 ⟨rfl, hrd, hgr⟩
  have HR1 := Lib.hid hrd
  have HG1 := Lib.hid hgr
  clear hrd hgr
  go_wp2
  go_end0
  exact ⟨rfl, HR1.out, grown_of HB.out HG1.out⟩
theorem need_nil (is : Bool) (w : World) :
    Calls Try.prog 23 #[.pointer none, .bool is] w fun e w' => e = .returned (.tuple #[]) ∧ Below w.heap.size w w' := by
  have hmf : ∀ (fn : Fn) (first cap : Array Value) (w : World), (Instr.makeFunc fn first cap).run Try.prog w = .ok (.func fn first cap) w := fun _ _ _ _ => rfl
  go_enter Try.func23, Try.ntmps23
  go_wp2_with fail
  refine (ask_nilN _ _).mono ?_; rintro e w1 ⟨rfl, hb⟩
  have HB := Lib.hid hb
  clear hb
  go_wp2
  go_end0
  exact ⟨rfl, (below_alloc w _).trans (HB.out.mono (by simp))⟩

/-- What Done answers. -/
def doneOf (l : List Int) (gave : Bool) : Int := if gave = true ∨ l ≠ [] then 20 else 0
set_option maxHeartbeats 400000 in
theorem done_any {w : World} {g : Nat} {l : List Int} {gave : Bool} (h : Rd w g l gave) :
    Calls Try.prog 26 #[.pointer (some ⟨g, 0, none⟩)] w fun e w' => e = .returned (.int .i64 (doneOf l gave)) ∧ w = w' := by
  obtain ⟨a, n, c, hw, ht⟩ := h
  have c0 := hw.cell 0
  have c1 := hw.cell 1
  have hn := ht.1
  simp only [List.getElem?_toArray, List.getElem?_cons_zero, List.getElem?_cons_succ] at c0 c1
  clear hw ht
  have HV : Hid (doneOf l gave = if gave = true ∨ n ≠ 0 then 20 else 0) := Lib.hid (by
    unfold doneOf
    have : l ≠ [] ↔ n ≠ 0 := by rw [← hn]; simp
    simp only [this])
  clear hn
  cases gave with
  | true =>
    go_enter Try.func26, Try.ntmps26
    go_wp2
    go_ret
    rw [HV.out]; exact ⟨rfl, rfl⟩
  | false =>
    by_cases h0 : n = 0
    · have HV2 : Hid (doneOf l false = 0) := Lib.hid (by rw [HV.out]; simp [h0])
      subst h0
      clear HV
      go_enter Try.func26, Try.ntmps26
      go_wp2
      go_ret
      rw [HV2.out]; exact ⟨rfl, rfl⟩
    · have hd : decide ((0 : Int) < (n : Int)) = true := by simp; omega
      have HV2 : Hid (doneOf l false = 20) := Lib.hid (by rw [HV.out]; simp [h0])
      clear HV
      go_enter Try.func26, Try.ntmps26
      go_wp2
      go_ret
      rw [HV2.out]; exact ⟨rfl, rfl⟩
theorem done_nil (w : World) : Calls Try.prog 26 #[.pointer none] w fun e w' => e = .returned (.int .i64 1) ∧ w = w' := by
  go_enter Try.func26, Try.ntmps26
  go_wp2
  go_ret
  exact ⟨rfl, rfl⟩

/-- A new reader of l. -/
def News (w : World) (l : List Int) (e : Ending) (w' : World) : Prop :=
  ∃ g, e = .returned (.pointer (some ⟨g, 0, none⟩)) ∧ w.heap.size ≤ g ∧ Rd w' g l false ∧ Below w.heap.size w w'
set_option maxHeartbeats 400000 in
theorem new_any {w : World} {S : Nat → Prop} {a : Option Addr} {n c : Nat} {l : List Int} (h : Txt w S a n c l) (hn : n ≤ 1099511627776) :
    Calls Try.prog 21 #[.slice a n c] w (News w l) := by
  have hb := h.2.2.1
  have H := Lib.hid h
  have HBY := Lib.hid hb
  clear h hb
  go_enter Try.func21, Try.ntmps21
  go_wp2_with fail
  refine (clone_any S a n c l w H.out hn).mono ?_
  rintro e w1 ⟨v, rfl, hown, hbl⟩
  obtain ⟨a1, c1, rfl, ht⟩ := Txt.own hown HBY.out
  obtain ⟨m, hm⟩ : ∃ m, l.length = m := ⟨_, rfl⟩
  have HX : Hid (News w l (.returned (.pointer (some ⟨w1.heap.size, 0, none⟩))) (w1.alloc (.cells #[.slice a1 m c1, .bool false] 69))) := Lib.hid (by
    refine ⟨w1.heap.size, rfl, hbl.size, ⟨a1, m, c1, Whole.new _ _ _, ?_⟩, hbl.alloc hbl.size _⟩
    rw [← hm]
    exact (ht.weak (S' := (· < w1.heap.size)) (fun b hb _ => hb)).keep (by simp) (fun b hb _ => Below.heap_alloc _ _ _ hb))
  rw [hm]
  clear hown hbl ht hm
  go_wp2
  go_ret
  exact HX.out

/-- What is read of a rest that bytes begin, at most so many. -/
def txtOf (most : Int) (l : List Int) : Option (List Int × List Int) :=
  match Cd.get 0 most l with
  | some (n, r) => if n ≤ r.length then some (r.take n.toNat, r.drop n.toNat) else none
  | none => none
theorem own_base {w : World} {base base' e size n : Nat} {v : Value} {xs : List Value} (h : w.ownsRow base e size v n xs) (hb : base' ≤ base) : w.ownsRow base' e size v n xs := by
  refine ⟨h.1, ?_⟩
  rcases h.2 with h' | ⟨g, cap, cur, h1, h2, h3⟩
  · exact Or.inl h'
  · exact Or.inr ⟨g, cap, cur, h1, by omega, h3⟩
theorem Rd.keep {w w' : World} {g : Nat} {l : List Int} {gave : Bool} (h : Rd w g l gave) (hz : w.heap.size ≤ w'.heap.size) (hk : ∀ b, b < w.heap.size → w'.heap[b]? = w.heap[b]?) : Rd w' g l gave := by
  obtain ⟨a, n, c, hw, ht⟩ := h
  exact ⟨a, n, c, hw.keep (hk _ hw.lt), ht.keep hz (fun b hb _ => hk b hb)⟩

/-- Bytes were read into memory of their own, or given up. -/
def Txd (w : World) (g : Nat) (gave : Bool) (o : Option (List Int × List Int)) (e : Ending) (w' : World) : Prop :=
  (∃ t r v, o = some (t, r) ∧ e = .returned v ∧ w'.ownsRow w.heap.size 5 1 v t.length (nums t) ∧ Rd w' g r gave ∧ w.grownBy w' (some g)) ∨
  (o = none ∧ e = .panicked lost ∧ (∃ r, Rd w' g r gave) ∧ w.grownBy w' (some g))
theorem grown_below {w w1 w' : World} {g : Nat} (hg : w.grownBy w1 (some g)) (hb : Below w1.heap.size w1 w') : w.grownBy w' (some g) :=
  ⟨hb.os.trans hg.os, hb.tape.trans hg.tape, hb.output.trans hg.output, Nat.le_trans hg.size hb.size, fun k hk hne => (hb.block k (Nat.lt_of_lt_of_le hk hg.size)).trans (hg.block k hk hne)⟩

set_option maxHeartbeats 400000 in
theorem textf_any {w : World} {g : Nat} {l : List Int} {gave : Bool} (p q : Nat) (most : Int) (h : Rd w g l gave) (hl : l.length ≤ 1099511627776) (hpg : p ≠ g)
    (h0 : w.cell? ⟨p, 0, none⟩ = some (.pointer (some ⟨g, 0, none⟩))) (h1 : w.cell? ⟨q, 0, none⟩ = some (.int .i64 most)) :
    Calls Try.prog 40 #[.pointer (some ⟨p, 0, none⟩), .pointer (some ⟨q, 0, none⟩)] w (Txd w g gave (txtOf most l)) := by
  have H := Lib.hid h
  have HLT := Lib.hid (World.block_lt_of_cell? w _ h0)
  have H0 := Lib.hid h0
  obtain ⟨O, hO⟩ : ∃ O, txtOf most l = O := ⟨_, rfl⟩
  rw [hO]
  have HO := Lib.hid hO
  clear h hO
  go_enter Try.func40, Try.ntmps40
  go_wp2_with fail
  refine (number_any 0 most H.out).mono ?_
  rintro e w1 (⟨v, r, ho, rfl, hrd, hgr⟩ | ⟨ho, rfl, hrd, hgr⟩)
  · have hv := Cd.get_enc ho H.out.byt
    have hv0 : 0 ≤ v := hv.2.2.1
    have hrl : r.length ≤ 1099511627776 := by have := congrArg List.length hv.2.2.2.2; simp at this; omega
    have c0 : w1.cell? ⟨p, 0, none⟩ = some (.pointer (some ⟨g, 0, none⟩)) := hgr.cell h0 (by simpa using hpg)
    have HOv : Hid ((if v ≤ r.length then some (r.take v.toNat, r.drop v.toNat) else none) = O) := Lib.hid (by have := HO.out; unfold txtOf at this; rw [ho] at this; exact this)
    have HR1 := Lib.hid hrd
    have HG1 := Lib.hid hgr
    clear ho hrd hgr hv h0 h1
    obtain ⟨m, rfl⟩ := Int.eq_ofNat_of_zero_le hv0
    by_cases hm : m ≤ r.length
    · have HV : Hid (O = some (r.take m, r.drop m)) := Lib.hid (by have := HOv.out; rw [if_pos (by omega), Int.toNat_natCast] at this; exact this.symm)
      clear HOv
      go_wp2_with fail
      refine (take_ok m HR1.out hm).mono ?_
      rintro e w2 ⟨a2, c2, rfl, htx, hrd, hgr⟩
      have HT2 := Lib.hid htx
      have HR2 := Lib.hid hrd
      have HG2 := Lib.hid hgr
      clear htx hrd hgr
      go_wp2_with fail
      refine (clone_any _ a2 m c2 _ w2 HT2.out (by omega)).mono ?_
      rintro e w3 ⟨v3, rfl, hown, hbl⟩
      have HX : Hid (Txd w g gave O (.returned v3) w3) := Lib.hid (Or.inl ⟨_, _, v3, HV.out, rfl, own_base hown (Nat.le_trans HG1.out.size HG2.out.size), HR2.out.below hbl, grown_below (grown_trans HG1.out HG2.out) hbl⟩)
      clear hown hbl
      go_wp2
      go_ret
      exact HX.out
    · have HV : Hid (O = none) := Lib.hid (by have := HOv.out; rw [if_neg (by omega)] at this; exact this.symm)
      clear HOv
      go_wp2_with fail
      refine (take_no (m : Int) HR1.out (by omega)).mono ?_
      rintro e w2 ⟨rfl, rfl⟩
      exact ⟨rfl, Or.inr ⟨HV.out, rfl, ⟨_, HR1.out⟩, HG1.out⟩⟩
  · have HV : O = none := by have := HO.out; unfold txtOf at this; rw [ho] at this; exact this.symm
    exact ⟨rfl, Or.inr ⟨HV, rfl, hrd, hgr⟩⟩

/-- Bytes were read, or the reader gave up. -/
def ReadT (w : World) (g : Nat) (gave : Bool) (o : Option (List Int × List Int)) (e : Ending) (w' : World) : Prop :=
  (∃ t r v, o = some (t, r) ∧ e = .returned v ∧ w'.ownsRow w.heap.size 5 1 v t.length (nums t) ∧ Rd w' g r gave ∧ w.grownBy w' (some g)) ∨
  (o = none ∧ e = .returned (.slice none 0 0) ∧ Rd w' g [] true ∧ w.grownBy w' (some g))

set_option maxHeartbeats 1000000 in
theorem askT {w : World} {g : Nat} {l : List Int} {gave : Bool} (p q : Nat) (most : Int) (h : Rd w g l gave) (hl : l.length ≤ 1099511627776) (hpg : p ≠ g)
    (h0 : w.cell? ⟨p, 0, none⟩ = some (.pointer (some ⟨g, 0, none⟩))) (h1 : w.cell? ⟨q, 0, none⟩ = some (.int .i64 most)) :
    Calls Try.prog 39 #[.pointer (some ⟨g, 0, none⟩), .func (.func 40) #[] #[.pointer (some ⟨p, 0, none⟩), .pointer (some ⟨q, 0, none⟩)]] w (ReadT w g gave (txtOf most l)) := by
  have hmf : ∀ (fn : Fn) (first cap : Array Value) (w : World), (Instr.makeFunc fn first cap).run Try.prog w = .ok (.func fn first cap) w := fun _ _ _ _ => rfl
  have hb := below_alloc w (.cells #[.pointer (some ⟨g, 0, none⟩)] 47)
  have H0 := Lib.hid ((hb.cell (p := ⟨p, 0, none⟩) (World.block_lt_of_cell? w _ h0)).trans h0)
  have H1 := Lib.hid ((hb.cell (p := ⟨q, 0, none⟩) (World.block_lt_of_cell? w _ h1)).trans h1)
  have HR := Lib.hid (h.below hb)
  have HB := Lib.hid hb
  have HL := Lib.hid h.lt
  have HN := Lib.hid (Whole.new w 47 #[.pointer (some ⟨g, 0, none⟩)])
  clear h h0 h1 hb
  go_enter_defers Try.func39, Try.ntmps39
  go_wp2_with fail
  refine (textf_any p q most HR.out hl hpg H0.out H1.out).mono ?_
  rintro e w1 (⟨t, r', v, ho, rfl, hown, hrd, hgr⟩ | ⟨ho, rfl, hrd, hgr⟩)
  · have HX : Hid (ReadT w g gave (txtOf most l) (.returned v) w1) := Lib.hid (Or.inl ⟨t, r', v, ho, rfl, own_base hown HB.out.size, hrd, grown_of HB.out hgr⟩)
    clear ho hrd hgr hown
    go_wp2
    refine leaves_cons (f := 48) (args := #[.pointer (some ⟨w.heap.size, 0, none⟩)]) (by simp) (by simp [go_sem]) ?_
    refine (idleT w.heap.size _).mono ?_
    rintro e u' w'' ⟨rfl, rfl, rfl⟩
    exact ⟨v, by simp [results, Try.results39], HX.out⟩
  · obtain ⟨r', hrd⟩ := hrd
    have hbox := HN.out.grown hgr (by have := HL.out; simp; omega)
    obtain ⟨a', n', c', hwh, htx⟩ := id hrd
    refine leaves_cons (f := 48) (args := #[.pointer (some ⟨w.heap.size, 0, none⟩)]) (by simp) (by simp [go_sem]) ?_
    refine (caughtT w.heap.size g a' n' c' gave [] (.int .i64 20) w1 (hbox.cell 0) hwh).mono ?_
    rintro e u' w'' ⟨rfl, rfl, rfl⟩
    exact ⟨_, results_tmp rfl _ _ _, Or.inr ⟨ho, rfl, hrd.lost, grown_lost (grown_of HB.out hgr) _ _⟩⟩
theorem ask_nilT (v : Value) (w : World) :
    Calls Try.prog 39 #[.pointer none, v] w fun e w' => e = .returned (.slice none 0 0) ∧ Below w.heap.size w w' := by
  go_enter_defers Try.func39, Try.ntmps39
  go_wp2
  exact ⟨.slice none 0 0, by simp [results, Try.results39], rfl, below_alloc _ _⟩

set_option maxHeartbeats 400000 in
theorem rtext_any {w : World} {g : Nat} {l : List Int} {gave : Bool} (most : Int) (h : Rd w g l gave) (hl : l.length ≤ 1099511627776) :
    Calls Try.prog 24 #[.pointer (some ⟨g, 0, none⟩), .int .i64 most] w (ReadT w g gave (txtOf most l)) := by
  have hmf : ∀ (fn : Fn) (first cap : Array Value) (w : World), (Instr.makeFunc fn first cap).run Try.prog w = .ok (.func fn first cap) w := fun _ _ _ _ => rfl
  have hgl := h.lt
  have H := Lib.hid h
  clear h
  go_enter Try.func24, Try.ntmps24
  go_wp2_with fail
  have hb3 := (below_alloc w (Obj.cells #[.pointer (some ⟨g, 0, none⟩)] 47)).alloc (by simp) (Obj.cells #[.int .i64 most] 3)
  have HB := Lib.hid hb3
  clear hb3
  have k0 := (Whole.new w 47 #[.pointer (some ⟨g, 0, none⟩)]).alloc (Obj.cells #[.int .i64 most] 3)
  have k1 := Whole.new (w.alloc (Obj.cells #[.pointer (some ⟨g, 0, none⟩)] 47)) 3 #[.int .i64 most]
  rw [size_alloc] at k1
  refine (askT w.heap.size (w.heap.size + 1) most (H.out.below HB.out) hl (by omega) ?_ ?_).mono ?_
  · exact k0.cell 0
  · exact k1.cell 0
  rintro e w1 (⟨t, r', v, ho, rfl, hown, hrd, hgr⟩ | ⟨ho, rfl, hrd, hgr⟩)
  · have HX : Hid (ReadT w g gave (txtOf most l) (.returned v) w1) := Lib.hid (Or.inl ⟨t, r', v, ho, rfl, own_base hown HB.out.size, hrd, grown_of HB.out hgr⟩)
    clear ho hrd hgr hown
    go_wp2
    go_ret
    exact HX.out
  · have HX : Hid (ReadT w g gave (txtOf most l) (.returned (.slice none 0 0)) w1) := Lib.hid (Or.inr ⟨ho, rfl, hrd, grown_of HB.out hgr⟩)
    clear ho hrd hgr
    go_wp2
    go_ret
    exact HX.out
theorem rtext_nil (most : Int) (w : World) :
    Calls Try.prog 24 #[.pointer none, .int .i64 most] w fun e w' => e = .returned (.slice none 0 0) ∧ Below w.heap.size w w' := by
  have hmf : ∀ (fn : Fn) (first cap : Array Value) (w : World), (Instr.makeFunc fn first cap).run Try.prog w = .ok (.func fn first cap) w := fun _ _ _ _ => rfl
  go_enter Try.func24, Try.ntmps24
  go_wp2_with fail
  refine (ask_nilT _ _).mono ?_; rintro e w1 ⟨rfl, hb⟩
  have HB := Lib.hid hb
  clear hb
  go_wp2
  go_ret
  refine ⟨rfl, Below.trans ?_ (HB.out.mono (by simp; omega))⟩
  exact (below_alloc w _).alloc (by simp) _
end Go.Proofs.Ytkmkccdihoaefaa
