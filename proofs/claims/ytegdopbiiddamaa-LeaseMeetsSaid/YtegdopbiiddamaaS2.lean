/-
  The walks of the document's Held, Late, Fits and Slot of leases.
-/
import Derived.Test.YtegdopbiiddamaaS1
namespace Go.Proofs.Ytegdopbiiddamaa
open Go.RowKit Go.Great
set_option linter.unusedVariables false
set_option linter.unusedSimpArgs false
set_option maxRecDepth 20000
/-- What a walk of a lease's call keeps. -/
structure Cls (w0 w : World) (C V : Array Value) (p : Dr.P) (l : Ln.L) : Prop where
  pl : Pl w w0.heap.size C p
  lb : Lb w (w0.heap.size + 1) V l
  below : Below w0.heap.size w0 w
theorem Cls.on {w0 w w' : World} {C V : Array Value} {p : Dr.P} {l : Ln.L} (h : Cls w0 w C V p l) (hb : Below w.heap.size w w') : Cls w0 w' C V p l := ⟨h.pl.on hb, h.lb.on hb, h.below.trans (hb.mono h.below.size)⟩
theorem boxes_pl {w : World} {S : Nat → Prop} {C V : Array Value} {p : Dr.P} {l : Ln.L} (h : Cc w S C p) (ha : Lse w V l) : ∃ w1, (w.alloc (.cells C 24)).alloc (.cells V 26) = w1 ∧ Cls w w1 C V p l := by
  refine ⟨_, rfl, (Pl.new h).on (below_alloc _ _), ?_, (below_alloc w _).alloc (by simp) _⟩
  have := Lb.new (ha.on (below_alloc w (.cells C 24)))
  rw [size_alloc] at this
  exact this
theorem Lse.row {w : World} {s no a : Int} {ad : Option Addr} {n c : Nat} {l : Ln.L} (h : Lse w (lcs s no a ad n c) l) : Ns w Any ad n l.fr := by
  obtain ⟨ad', n', c', e, h1, _⟩ := h
  simp only [lcs, Array.mk.injEq, List.cons.injEq, Value.slice.injEq, and_true] at e
  obtain ⟨_, _, _, e1, e2, _⟩ := e
  subst e1 e2
  exact h1
theorem Pl.more {w : World} {g : Nat} {C : Array Value} {p : Dr.P} (h : Pl w g C p) : w.cell? ⟨g, 3, none⟩ = some (.int .i64 p.hold) ∧ w.cell? ⟨g, 5, none⟩ = some (.int .i64 p.guard) ∧ w.cell? ⟨g, 6, none⟩ = some (.int .i64 p.work) := by
  obtain ⟨a, n, c, a', n', c', e, _⟩ := h.2
  refine ⟨(h.1.cell 3).trans ?_, (h.1.cell 5).trans ?_, (h.1.cell 6).trans ?_⟩ <;> rw [e] <;> rfl
set_option maxHeartbeats 8000000 in
theorem rheld_any {w : World} {S : Nat → Prop} {C V : Array Value} {p : Dr.P} {l : Ln.L} (h : Cc w S C p) (ha : Lse w V l) (hn : l.fr.length ≤ 1000000) (now : Int) : Calls Try.prog 15 #[.agg C, .agg V, .int .i64 now] w fun e w' => e = .returned (.bool (Ln.held p l now)) ∧ Below w.heap.size w w' := by
  have h11 := h.size
  obtain ⟨w1, hw1, hk⟩ := boxes_pl h ha
  have HW := Lib.hid hw1
  have HK := Lib.hid hk
  obtain ⟨ad, n, c, rfl, hrow, hnc, _⟩ := ha
  have HN : Hid (n ≤ 1000000) := Lib.hid (by rw [← hrow.1]; exact hn)
  obtain ⟨t, ht⟩ : ∃ t, Ln.held p l now = t := ⟨_, rfl⟩
  rw [ht]
  have HT := Lib.hid ht
  obtain ⟨nd, hnd⟩ : ∃ nd, p.nodes = nd := ⟨_, rfl⟩
  have HND := Lib.hid hnd
  clear h hw1 hk hrow hn ht hnd
  go_enter Try.func15, Try.ntmps15
  go_upto_region 1 with fail
  rw [HW.out]
  go_wp2
  go_loopw [7, 8, 9] (fun vm vi _ wr => ∃ k : Nat, k ≤ 9 ∧ (k = 0 ∨ (k : Int) ≤ nd) ∧ vi = .int .i64 (k : Int) ∧ vm = .int .i64 (Ln.cnt l.fr k : Int) ∧ Hid (Cls w wr C (lcs l.slot l.nonce l.asked ad n c) p l)) (fun _ vi _ _ => 9 - (intOf vi).toNat)
  case atStart => exact ⟨0, by omega, Or.inl rfl, rfl, rfl, HK⟩
  case round =>
    clear HK
    obtain ⟨k, hk, hk0, rfl, rfl, HK⟩ := hrel
    have c0 := HK.out.pl.cells.1
    rw [HND.out] at c0
    have s3 : wr.cell? ⟨w.heap.size + 1, 3, none⟩ = some (.slice ad n c) := HK.out.lb.1.cell 3
    have hcl := Ln.cnt_le l.fr k
    by_cases hgo : (k : Int) < nd ∧ k < 9
    · have q1 := hgo.1
      have q2 : (k : Int) < 9 := by omega
      go_wp2_with fail
      refine (rin_any (w := wr) HK.out.lb.2.row HN.out (k : Int)).mono ?_
      rintro e w2 ⟨rfl, hb⟩
      have HK := Lib.hid (HK.out.on hb)
      clear hb c0 s3
      by_cases z : (k : Int) ∈ l.fr
      · rw [decide_eq_true z]
        have ec : Ln.cnt l.fr (k + 1) = Ln.cnt l.fr k + 1 := by simp only [Ln.cnt]; rw [if_pos z]
        obtain ⟨m, hm⟩ : ∃ m, Ln.cnt l.fr k = m := ⟨_, rfl⟩
        rw [hm] at ec hcl ⊢
        have HE := Lib.hid ec
        clear z ec hm
        go_wp2
        exact ⟨⟨k + 1, by omega, Or.inr (by omega), by go_num, by rw [HE.out]; go_num, HK⟩, by simp [intOf] <;> omega⟩
      · rw [decide_eq_false z]
        have ec : Ln.cnt l.fr (k + 1) = Ln.cnt l.fr k := by simp only [Ln.cnt]; rw [if_neg z]
        have HE := Lib.hid ec
        clear z ec
        go_wp2
        exact ⟨⟨k + 1, by omega, Or.inr (by omega), by go_num, by rw [HE.out], HK⟩, by simp [intOf] <;> omega⟩
    · have HGO := Lib.hid hgo
      obtain ⟨m, hm⟩ : ∃ m, Ln.cnt l.fr k = m := ⟨_, rfl⟩
      have HM := Lib.hid hm
      rw [hm]
      have s2 : wr.cell? ⟨w.heap.size + 1, 2, none⟩ = some (.int .i64 l.asked) := HK.out.lb.1.cell 2
      clear hgo hm hcl
      by_cases z1 : (k : Int) < nd
      · have z2 : ¬ ((k : Int) < 9) := fun h => HGO.out ⟨z1, by omega⟩
        go_wp2_with (first | ((with_reducible show wpList _ _ _ ((⟨some 27, Op.load 24 (.tmp 3), _, _, _, _⟩ : Oper) :: _) _ _); refine wpList_load_rowG (by rfl) _ (.tmp 3) rfl w.heap.size rfl 24 C (0, 0) _ HK.out.pl.1 Try.underlying24 rfl (by rw [h11]; exact info11) ?_) | fail)
        refine (rholds_any HK.out.pl.2 l.asked now).mono ?_
        rintro e w2 ⟨rfl, hb⟩
        have HK := Lib.hid (HK.out.on hb)
        clear hb c0 s3 s2
        by_cases hh : p.holds l.asked now = true
        case neg =>
          have hh' : p.holds l.asked now = false := by simpa using hh
          have HE : Hid (t = false) := Lib.hid (by rw [← HT.out]; unfold Ln.held; rw [hh']; rfl)
          rw [hh']
          clear hh hh'
          go_wp2
          go_ret
          exact ⟨ret_bool HE.out.symm, HK.out.below⟩
        have hok := (of_decide_eq_true hh).1
        have hnk : p.nodes.toNat = k := by
          have h0 := hok.1
          unfold Dr.P.g0 at h0
          have h1 := HGO.out
          have h2 := HND.out
          omega
        have HE : Hid (t = decide ((m : Int) ≥ p.maj)) := Lib.hid (by rw [← HT.out]; unfold Ln.held; rw [hh, hnk, HM.out]; rfl)
        rw [hh]
        clear hh hok hnk
        go_wp2_with (first | ((with_reducible show wpList _ _ _ ((⟨some 34, Op.load 24 (.tmp 3), _, _, _, _⟩ : Oper) :: _) _ _); refine wpList_load_rowG (by rfl) _ (.tmp 3) rfl w.heap.size rfl 24 C (0, 0) _ HK.out.pl.1 Try.underlying24 rfl (by rw [h11]; exact info11) ?_) | fail)
        refine (rmajority_any HK.out.pl.2).mono ?_
        rintro e w3 ⟨rfl, hb⟩
        have HK := Lib.hid (HK.out.on hb)
        clear hb
        obtain ⟨mj, hmj⟩ : ∃ mj, p.maj = mj := ⟨_, rfl⟩
        rw [hmj] at HE ⊢
        clear hmj
        obtain ⟨bb, hbb⟩ : ∃ bb, decide ((m : Int) ≥ mj) = bb := ⟨_, rfl⟩
        rw [hbb] at HE
        have hbb' : decide (mj ≤ (m : Int)) = bb := hbb
        go_wp2
        go_ret
        exact ⟨ret_bool HE.out.symm, HK.out.below⟩
      · skip
        go_wp2_with (first | ((with_reducible show wpList _ _ _ ((⟨some 27, Op.load 24 (.tmp 3), _, _, _, _⟩ : Oper) :: _) _ _); refine wpList_load_rowG (by rfl) _ (.tmp 3) rfl w.heap.size rfl 24 C (0, 0) _ HK.out.pl.1 Try.underlying24 rfl (by rw [h11]; exact info11) ?_) | fail)
        refine (rholds_any HK.out.pl.2 l.asked now).mono ?_
        rintro e w2 ⟨rfl, hb⟩
        have HK := Lib.hid (HK.out.on hb)
        clear hb c0 s3 s2
        by_cases hh : p.holds l.asked now = true
        case neg =>
          have hh' : p.holds l.asked now = false := by simpa using hh
          have HE : Hid (t = false) := Lib.hid (by rw [← HT.out]; unfold Ln.held; rw [hh']; rfl)
          rw [hh']
          clear hh hh'
          go_wp2
          go_ret
          exact ⟨ret_bool HE.out.symm, HK.out.below⟩
        have hok := (of_decide_eq_true hh).1
        have hnk : p.nodes.toNat = k := by
          have h0 := hok.1
          unfold Dr.P.g0 at h0
          have h1 := HGO.out
          have h2 := HND.out
          omega
        have HE : Hid (t = decide ((m : Int) ≥ p.maj)) := Lib.hid (by rw [← HT.out]; unfold Ln.held; rw [hh, hnk, HM.out]; rfl)
        rw [hh]
        clear hh hok hnk
        go_wp2_with (first | ((with_reducible show wpList _ _ _ ((⟨some 34, Op.load 24 (.tmp 3), _, _, _, _⟩ : Oper) :: _) _ _); refine wpList_load_rowG (by rfl) _ (.tmp 3) rfl w.heap.size rfl 24 C (0, 0) _ HK.out.pl.1 Try.underlying24 rfl (by rw [h11]; exact info11) ?_) | fail)
        refine (rmajority_any HK.out.pl.2).mono ?_
        rintro e w3 ⟨rfl, hb⟩
        have HK := Lib.hid (HK.out.on hb)
        clear hb
        obtain ⟨mj, hmj⟩ : ∃ mj, p.maj = mj := ⟨_, rfl⟩
        rw [hmj] at HE ⊢
        clear hmj
        obtain ⟨bb, hbb⟩ : ∃ bb, decide ((m : Int) ≥ mj) = bb := ⟨_, rfl⟩
        rw [hbb] at HE
        have hbb' : decide (mj ≤ (m : Int)) = bb := hbb
        go_wp2
        go_ret
        exact ⟨ret_bool HE.out.symm, HK.out.below⟩
end Go.Proofs.Ytegdopbiiddamaa
