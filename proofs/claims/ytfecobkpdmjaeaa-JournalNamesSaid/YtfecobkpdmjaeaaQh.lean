/-
  A journal in memory; the walks of Open, Force, Room, Life.
-/
import Derived.Test.YtfecobkpdmjaeaaQg
namespace Go.Proofs.Ytfecobkpdmjaeaa
open Go.RowKit
set_option linter.unusedVariables false
set_option linter.unusedSimpArgs false
set_option maxRecDepth 20000
structure Jr (w : World) (B j p : Nat) (v : Value) (next room life : Nat) (L : List (List Int)) : Prop where
  cells : Whole w j 74 #[.pointer (some ⟨p, 0, none⟩), .int .i64 (next : Int), .int .i64 (room : Int), .int .i64 (life : Int), v]
  recs : Recs w B v L
section
variable {w w' : World} {B j p bb mb n : Nat} {v : Value} {next room life : Nat} {L : List (List Int)} {A : Dm.A}
theorem Jr.below (h : Jr w B j p v next room life L) (hb : Below w.heap.size w w') : Jr w' B j p v next room life L := ⟨h.cells.below hb h.cells.lt, h.recs.below hb⟩
theorem Jr.c0 (h : Jr w B j p v next room life L) : w.cell? ⟨j, 0, none⟩ = some (.pointer (some ⟨p, 0, none⟩)) := h.cells.cell 0
theorem Jr.c1 (h : Jr w B j p v next room life L) : w.cell? ⟨j, 1, none⟩ = some (.int .i64 (next : Int)) := h.cells.cell 1
theorem Jr.c2 (h : Jr w B j p v next room life L) : w.cell? ⟨j, 2, none⟩ = some (.int .i64 (room : Int)) := h.cells.cell 2
theorem Jr.c3 (h : Jr w B j p v next room life L) : w.cell? ⟨j, 3, none⟩ = some (.int .i64 (life : Int)) := h.cells.cell 3
theorem Jr.c4 (h : Jr w B j p v next room life L) : w.cell? ⟨j, 4, none⟩ = some v := h.cells.cell 4
theorem dk_types (h : Dk w p bb mb A n) {g : Nat} {t : TypeId} {cur : Array Value} {fr : Nat × Nat} (hg : w.heap[g]? = some (.cells cur t fr)) : (t ≠ 66 → g ≠ p) ∧ (t ≠ 5 → g ≠ bb) ∧ g ≠ mb := by
  refine ⟨fun ht e => ?_, fun ht e => ?_, fun e => ?_⟩
  · subst e
    have h2 := h.cells
    unfold Whole at h2
    rw [h2] at hg
    injection hg with h3
    injection h3 with _ h4
    exact ht h4.symm
  · subst e
    have h2 := h.bytes
    unfold Whole at h2
    rw [h2] at hg
    injection hg with h3
    injection h3 with _ h4
    exact ht h4.symm
  · subst e
    obtain ⟨es, clock, h2, _⟩ := h.map
    rw [h2] at hg
    injection hg with h3
    cases h3
theorem Jr.only (h : Jr w B j p v next room life L) (hd : Dk w p bb mb A n) (hB : bb < B) (ho : Only [p, bb, mb] w w') : Jr w' B j p v next room life L := by
  refine ⟨h.cells.keep (ho.block j h.cells.lt ?_), h.recs.keep fun g cur t hg ht hc => ho.block g (Array.getElem?_eq_some_iff.1 hc).1 ?_⟩
  · obtain ⟨h1, h2, h3⟩ := dk_types hd h.cells
    simp only [List.mem_cons, List.not_mem_nil, or_false, not_or]
    exact ⟨h1 (by decide), h2 (by decide), h3⟩
  · obtain ⟨h1, h2, h3⟩ := dk_types hd hc
    simp only [List.mem_cons, List.not_mem_nil, or_false, not_or]
    exact ⟨h1 (by rcases ht with rfl | rfl <;> decide), by omega, h3⟩
end
theorem bsOf_all {p bb mb n fr m : Nat} {A : Dm.A} {w : World} (h : Dk w p bb mb A n) (hm : fr + m ≤ n) : Alls (bsOf A fr m) ∧ (bsOf A fr m).length = m := by
  refine ⟨fun x hx => ?_, by simp [bsOf]⟩
  obtain ⟨i, hi, rfl⟩ := List.mem_map.1 hx
  exact Dm.read_len h.ok (by have := List.mem_range.1 hi; omega)
theorem go_used (bs : List (List Int)) : ∀ s : Jl.S, s.used ≤ s.pos → (Jl.go bs s).used ≤ s.pos + bs.length ∧ s.used ≤ (Jl.go bs s).used := by
  induction bs with
  | nil => intro s h; exact ⟨by simpa [Jl.go] using h, Nat.le_refl _⟩
  | cons b bs ih =>
    intro s h
    unfold Jl.go
    split
    · have h2 : (Jl.step s b).used ≤ (Jl.step s b).pos ∧ (Jl.step s b).pos = s.pos + 1 ∧ s.used ≤ (Jl.step s b).used := by
        unfold Jl.step
        split
        · exact ⟨Nat.le_refl _, rfl, by show s.used ≤ s.pos + 1; omega⟩
        · exact ⟨by show s.used ≤ s.pos + 1; omega, rfl, Nat.le_refl _⟩
      have h3 := ih _ h2.1
      rw [List.length_cons]
      omega
    · rw [List.length_cons]; omega
theorem Recs.mono {w : World} {B B2 : Nat} {v : Value} {L : List (List Int)} (h : Recs w B v L) (hb : B2 ≤ B) : Recs w B2 v L := by
  obtain ⟨vs, h1, h2⟩ := h
  refine ⟨vs, own_base h1 hb, fun k l hl => ?_⟩
  obtain ⟨u, hu, hr⟩ := h2 k l hl
  exact ⟨u, hu, hr.base hb⟩
theorem Recs.form {w : World} {B : Nat} {v : Value} {L : List (List Int)} (h : Recs w B v L) : ∃ q c, v = .slice q L.length c := by
  obtain ⟨vs, h1, _⟩ := h
  rcases h1.2 with ⟨rfl, h0⟩ | ⟨g', cap, _, rfl, _⟩
  · exact ⟨_, _, by rw [h0]⟩
  · exact ⟨_, _, rfl⟩
def JOpen (bs : List (List Int)) (fr m p : Nat) (w : World) (e : Ending) (w' : World) : Prop := ∃ j v, e = .returned (.tuple #[.pointer (some ⟨j, 0, none⟩), .int .i64 0]) ∧
  Jr w' w.heap.size j p v (fr + (Jl.go bs (J0 0)).used) (m - (Jl.go bs (J0 0)).used) (grt bs + 1) (Jl.go bs (J0 0)).recs ∧ w.heap.size ≤ j ∧ Below w.heap.size w w'
set_option maxHeartbeats 4000000 in
theorem open_any {p bb mb n fr m : Nat} {A : Dm.A} {w : World} (h : Dk w p bb mb A n) (hd : A.down = false) (hm : fr + m ≤ n) :
    Calls Try.prog 13 #[.pointer (some ⟨p, 0, none⟩), .int .i64 (fr : Int), .int .i64 (m : Int)] w (JOpen (bsOf A fr m) fr m p w) := by
  have c0 := h.c0
  have c2 := h.c2
  have hsm := h.ok.small
  have hU := (go_used (bsOf A fr m) (J0 0) (Nat.le_refl _)).1
  have HD := Lib.hid (And.intro h (And.intro hd (bsOf_all h hm)))
  rw [HD.out.2.2.2] at hU
  have hU2 : (Jl.go (bsOf A fr m) (J0 0)).used ≤ m := by have : (J0 0).pos = 0 := rfl; omega
  rw [hd] at c2
  clear h hd hU
  obtain ⟨U, hUe⟩ : ∃ U, (Jl.go (bsOf A fr m) (J0 0)).used = U := ⟨_, rfl⟩
  obtain ⟨G, hGe⟩ : ∃ G, grt (bsOf A fr m) = G := ⟨_, rfl⟩
  have hG : G ≤ 1099511627776 := by rw [← hGe]; exact grt_le _
  rw [hUe] at hU2
  have HU := Lib.hid (And.intro hUe hGe)
  clear hUe hGe
  go_enter Try.func13, Try.ntmps13
  go_wp2_with fail
  refine (blocks_any hsm c0).mono ?_
  rintro e w1 ⟨rfl, rfl⟩
  have q1 : ¬ ((n : Int) - (fr : Int) < (m : Int)) := by omega
  go_wp2_with fail
  refine (down_any c2).mono ?_
  rintro e w1 ⟨rfl, rfl⟩
  clear q1 c0 c2
  go_wp2_with fail
  refine (jread_any HD.out.1 HD.out.2.1 hm).mono ?_
  rintro e w1 ⟨g, rfl, hw1, hg1, hb1⟩
  have H1 := Lib.hid (And.intro hw1 (And.intro hg1 hb1))
  clear hw1 hg1 hb1
  go_wp2_with fail
  refine (whole_any H1.out.1 HD.out.2.2.1 HD.out.2.2.2 (by omega)).mono ?_
  rintro e w2 ⟨v, rfl, hr2, hb2⟩
  rw [HU.out.1]
  have H2 := Lib.hid (And.intro (H1.out.1.below hb2 H1.out.1.lt) (And.intro hr2 (And.intro (H1.out.2.2.trans (hb2.mono H1.out.2.2.size)) (H1.out.2.2.size))))
  clear hr2 hb2
  go_wp2_with fail
  refine (behind_any H2.out.1 HD.out.2.2.1 HD.out.2.2.2 (by omega)).mono ?_
  rintro e w3 ⟨rfl, hb3⟩
  rw [HU.out.2]
  have H3 := Lib.hid (And.intro (H2.out.2.1.below hb3) (H2.out.2.2.1.trans (hb3.mono H2.out.2.2.1.size)))
  clear hb3
  obtain ⟨q, c, rfl⟩ := H3.out.1.form
  obtain ⟨N, hN⟩ : ∃ N, (Jl.go (bsOf A fr m) (J0 0)).recs.length = N := ⟨_, rfl⟩
  rw [hN] at H3 ⊢
  go_wp2
  go_ret2
  refine ⟨_, _, rfl, ⟨?_, ((H3.out.1.below (below_alloc _ _)).mono H2.out.2.2.2)⟩, H3.out.2.size, H3.out.2.alloc H3.out.2.size _⟩
  have e1 : ((fr + (Jl.go (bsOf A fr m) (J0 0)).used : Nat) : Int) = (fr : Int) + (U : Int) := by rw [HU.out.1]; omega
  have e2 : ((m - (Jl.go (bsOf A fr m) (J0 0)).used : Nat) : Int) = (m : Int) - (U : Int) := by rw [HU.out.1]; omega
  have e3 : ((grt (bsOf A fr m) + 1 : Nat) : Int) = (G : Int) + 1 := by rw [HU.out.2]; omega
  rw [e1, e2, e3]
  exact Whole.new w3 _ _
theorem open_nil {z1 z2 : Int} {w : World} : Calls Try.prog 13 #[.pointer none, .int .i64 z1, .int .i64 z2] w fun e w' => e = .returned (.tuple #[.pointer none, .int .i64 1]) ∧ w = w' := by
  go_enter Try.func13, Try.ntmps13
  go_wp2
  go_ret2
  exact ⟨rfl, rfl⟩
set_option maxHeartbeats 4000000 in
theorem open_arg {p bb mb n : Nat} {z1 z2 : Int} {A : Dm.A} {w : World} (h : Dk w p bb mb A n) (b1 : z1 ≤ 9223372036854775807) (hz : z1 < 0 ∨ z2 < 0 ∨ (n : Int) - z1 < z2) :
    Calls Try.prog 13 #[.pointer (some ⟨p, 0, none⟩), .int .i64 z1, .int .i64 z2] w fun e w' => e = .returned (.tuple #[.pointer none, .int .i64 1]) ∧ w = w' := by
  have c0 := h.c0
  have hsm := h.ok.small
  clear h
  by_cases h1 : z1 < 0
  · go_enter Try.func13, Try.ntmps13
    go_wp2
    go_ret2
    exact ⟨rfl, rfl⟩
  · have h1' : 0 ≤ z1 := by omega
    by_cases h2 : z2 < 0
    · go_enter Try.func13, Try.ntmps13
      go_wp2
      go_ret2
      exact ⟨rfl, rfl⟩
    · have h2' : 0 ≤ z2 := by omega
      have h3 : (n : Int) - z1 < z2 := by omega
      clear hz
      go_enter Try.func13, Try.ntmps13
      go_wp2_with fail
      refine (blocks_any hsm c0).mono ?_
      rintro e w1 ⟨rfl, rfl⟩
      go_wp2
      go_ret2
      exact ⟨rfl, rfl⟩
set_option maxHeartbeats 4000000 in
theorem open_down {p bb mb n fr m : Nat} {A : Dm.A} {w : World} (h : Dk w p bb mb A n) (hd : A.down = true) (hm : fr + m ≤ n) :
    Calls Try.prog 13 #[.pointer (some ⟨p, 0, none⟩), .int .i64 (fr : Int), .int .i64 (m : Int)] w fun e w' => e = .returned (.tuple #[.pointer none, .int .i64 60]) ∧ w = w' := by
  have c0 := h.c0
  have c2 := h.c2
  have hsm := h.ok.small
  rw [hd] at c2
  clear h hd
  go_enter Try.func13, Try.ntmps13
  go_wp2_with fail
  refine (blocks_any hsm c0).mono ?_
  rintro e w1 ⟨rfl, rfl⟩
  have q1 : ¬ ((n : Int) - (fr : Int) < (m : Int)) := by omega
  go_wp2_with fail
  refine (down_any c2).mono ?_
  rintro e w1 ⟨rfl, rfl⟩
  go_wp2
  go_ret2
  exact ⟨rfl, rfl⟩
section
variable {w : World} {B j p bb mb n : Nat} {v : Value} {next room life : Nat} {L : List (List Int)} {A : Dm.A}
theorem jRoom_any (h : Jr w B j p v next room life L) : Calls Try.prog 30 #[.pointer (some ⟨j, 0, none⟩)] w fun e w' => e = .returned (.int .i64 (room : Int)) ∧ w = w' := by
  have c := h.c2
  clear h
  go_enter Try.func30, Try.ntmps30
  go_wp2
  go_ret
  exact ⟨rfl, rfl⟩
theorem jRoom_nil : Calls Try.prog 30 #[.pointer none] w fun e w' => e = .returned (.int .i64 0) ∧ w = w' := by
  go_enter Try.func30, Try.ntmps30
  go_wp2
  go_ret
  exact ⟨rfl, rfl⟩
theorem jLife_any (h : Jr w B j p v next room life L) : Calls Try.prog 31 #[.pointer (some ⟨j, 0, none⟩)] w fun e w' => e = .returned (.int .i64 (life : Int)) ∧ w = w' := by
  have c := h.c3
  clear h
  go_enter Try.func31, Try.ntmps31
  go_wp2
  go_ret
  exact ⟨rfl, rfl⟩
theorem jLife_nil : Calls Try.prog 31 #[.pointer none] w fun e w' => e = .returned (.int .i64 0) ∧ w = w' := by
  go_enter Try.func31, Try.ntmps31
  go_wp2
  go_ret
  exact ⟨rfl, rfl⟩
theorem jForce_up (h : Jr w B j p v next room life L) (hd : Dk w p bb mb A n) (hB : bb < B) (hu : A.down = false) :
    Calls Try.prog 17 #[.pointer (some ⟨j, 0, none⟩)] w fun e w' => e = .returned (.int .i64 0) ∧ Jr w' B j p v next room life L ∧ Dk w' p bb mb (Dm.flush A) n ∧ Only [p, bb, mb] w w' := by
  have c := h.c0
  have H := Lib.hid (And.intro h hd)
  clear h hd
  go_enter Try.func17, Try.ntmps17
  go_wp2_with fail
  refine (flush_any H.out.2 hu).mono ?_
  rintro e w' ⟨rfl, hd', ho⟩
  have H' := Lib.hid (And.intro (H.out.1.only H.out.2 hB ho) (And.intro hd' ho))
  clear hd' ho
  go_wp2
  go_ret
  exact ⟨rfl, H'.out⟩
theorem jForce_down (h : Jr w B j p v next room life L) (hd : Dk w p bb mb A n) (hu : A.down = true) :
    Calls Try.prog 17 #[.pointer (some ⟨j, 0, none⟩)] w fun e w' => e = .returned (.int .i64 60) ∧ w = w' := by
  have c := h.c0
  have c2 := hd.c2
  rw [hu] at c2
  clear h hd
  go_enter Try.func17, Try.ntmps17
  go_wp2_with fail
  refine (flush_bad (ready_down c2) (by omega)).mono ?_
  rintro e w' ⟨rfl, rfl⟩
  go_wp2
  go_ret
  exact ⟨rfl, rfl⟩
theorem jForce_nil : Calls Try.prog 17 #[.pointer none] w fun e w' => e = .returned (.int .i64 1) ∧ w = w' := by
  go_enter Try.func17, Try.ntmps17
  go_wp2
  go_ret
  exact ⟨rfl, rfl⟩
end
end Go.Proofs.Ytfecobkpdmjaeaa
