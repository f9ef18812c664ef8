/-
  The walks of the document's New, may and put of acceptors.
-/
import Derived.Test.YtalfcaepobbdeaaMa
namespace Go.Proofs.Ytalfcaepobbdeaa
open Go.RowKit Go.Great
set_option linter.unusedVariables false
set_option linter.unusedSimpArgs false
set_option maxRecDepth 20000
theorem built_a (x : Int) : Try.prog.built 30 [(0, .int .i64 x)] = some (acs x none 0 0) := by kernel_rfl
def az : Array Value := acs 0 none 0 0
theorem az_is : az = #[.int .i64 0, .slice none 0 0] := rfl
set_option maxHeartbeats 4000000 in
theorem rnew_any {w : World} {S : Nat → Prop} {C : Array Value} {p : Dr.P} (h : Cc w S C p) (now : Int) (hn : In64 now) : Calls Try.prog 9 #[.agg C, .int .i64 now] w (AccQ w (Gt.new p now)) := by
  have h11 := h.size
  obtain ⟨w1, hw1, hP, hZ, hb1⟩ : ∃ w1, (w.alloc (.cells C 24)).alloc (.cells az 30) = w1 ∧ Pl w1 w.heap.size C p ∧ Whole w1 (w.heap.size + 1) 30 az ∧ Below w.heap.size w w1 := by
    refine ⟨_, rfl, (Pl.new h).on (below_alloc _ _), ?_, (below_alloc w _).alloc (by simp) _⟩
    have := Whole.new (w.alloc (.cells C 24)) 30 az
    rw [size_alloc] at this
    exact this
  have HW := Lib.hid hw1
  have H1 := Lib.hid (And.intro hP (And.intro hZ hb1))
  have HN := Lib.hid hn
  clear h hw1 hP hZ hb1 hn
  go_enter Try.func9, Try.ntmps9
  go_upto_region 1 with fail
  rw [← az_is, HW.out]
  go_wp2_with (first | ((with_reducible show wpList _ _ _ ((⟨some 7, Op.load 24 (.tmp 2), _, _, _, _⟩ : Oper) :: _) _ _); refine wpList_load_rowG (by rfl) _ (.tmp 2) rfl w.heap.size rfl 24 C (0, 0) _ H1.out.1.1 Try.underlying24 rfl (by rw [h11]; exact info11) ?_) | fail)
  refine (rcheck_any H1.out.1.2).mono ?_
  rintro e w2 ⟨rfl, hb2⟩
  have H2 := Lib.hid (And.intro (H1.out.1.on hb2) (And.intro (H1.out.2.1.below hb2 H1.out.2.1.lt) (H1.out.2.2.trans (hb2.mono H1.out.2.2.size))))
  clear hb2 H1
  by_cases hok : p.ok
  case neg =>
    rw [Dr.P.chk_no hok]
    have HE : Hid (Gt.new p now = ⟨0, []⟩) := Lib.hid (by unfold Gt.new; rw [if_neg hok])
    clear hok
    go_wp2_with (first | ((with_reducible show wpList _ _ _ ((⟨_, Op.build 30 _, _, _, _, _⟩ : Oper) :: _) _ _); refine wpList_built rfl _ rfl [] rfl az.toList (by kernel_rfl) ?_) | ((with_reducible show wpList _ _ _ ((⟨_, Op.store 30 (.tmp 4) _, _, _, _, _⟩ : Oper) :: _) _ _); refine wpList_store_row rfl 30 (.tmp 4) (.tmp 10) rfl (w.heap.size + 1) az rfl rfl 30 _ H2.out.2.1 info_acc rfl (by simp [az, acs, Value.oneCell']) ?_) | fail)
    refine bodyPost_ret (results_one_cell rfl _ _ _ _ rfl (run_loadVar_row _ _ _ _ _ (0, 0) _ (H2.out.2.1.row az) Try.underlying30 rfl info_acc)) rfl ?_
    refine ⟨az, rfl, ?_, below_row H2.out.2.2 (by omega) _⟩
    rw [HE.out]
    exact ⟨none, 0, 0, rfl, Elem.Row.nil _ _ _, Nat.le_refl _, ⟨by decide, by decide⟩, by omega⟩
  rw [Dr.P.chk_ok hok]
  obtain ⟨N, hN⟩ : ∃ N : Nat, p.slots = (N : Int) := ⟨p.slots.toNat, by have := hok.2.1.1; omega⟩
  have hN9 : N ≤ 9 := by have h1 := hok.2.1.2; have h2 := hok.1.2; omega
  have HE : Hid (Gt.new p now = ⟨now, List.replicate N Gt.none⟩) := Lib.hid (by unfold Gt.new; rw [if_pos hok, hN]; rfl)
  have HNN := Lib.hid hN
  clear hok hN
  go_upto_region 4 with (first | ((with_reducible show wpList _ _ _ ((⟨_, Op.build 30 _, _, _, _, _⟩ : Oper) :: _) _ _); refine wpList_built rfl _ rfl [(0, .int .i64 now)] rfl (acs now none 0 0).toList (built_a now) ?_) | ((with_reducible show wpList _ _ _ ((⟨_, Op.store 30 (.tmp 5) _, _, _, _, _⟩ : Oper) :: _) _ _); refine wpList_store_row rfl 30 (.tmp 5) (.tmp 12) rfl w2.heap.size (acs now none 0 0) rfl rfl 30 _ (Whole.new w2 30 az) info_acc rfl (by simp [acs, Value.oneCell']) ?_) | fail)
  rw [← az_is]
  obtain ⟨w3, hw3⟩ : ∃ w3, (w2.alloc (.cells az 30)).setRow w2.heap.size (acs now none 0 0) = w3 := ⟨_, rfl⟩
  have hW3 : Whole w3 w2.heap.size 30 (acs now none 0 0) := by rw [← hw3]; exact (Whole.new w2 _ _).row _
  have hb3 : Below w2.heap.size w2 w3 := by rw [← hw3]; exact below_row (below_alloc w2 _) (Nat.le_refl _) _
  rw [hw3]
  obtain ⟨g5, hg5⟩ : ∃ g, w2.heap.size = g := ⟨_, rfl⟩
  have hg5' := hW3.lt
  rw [hg5] at hW3 hb3 hg5' ⊢
  have HG := Lib.hid hg5
  have H0 : Hid (Whole w3 g5 30 (acs now none 0 0) ∧ GE.Own w3 (g5 + 1) none 0 0 (List.replicate 0 Gt.none) ∧ Below g5 w2 w3) := Lib.hid ⟨hW3, Elem.Own.nil _ _, hb3⟩
  clear hw3 hW3 hb3 hg5 hg5'
  go_wp2
  go_loopw [6] (fun v wr => ∃ (i c : Nat) (ad : Option Addr), i ≤ N ∧ v = .int .i64 (i : Int) ∧ Hid (Whole wr g5 30 (acs now ad i c) ∧ GE.Own wr (g5 + 1) ad i c (List.replicate i Gt.none) ∧ Below g5 w2 wr)) (fun v _ => N - (intOf v).toNat)
  case atStart => exact ⟨0, 0, none, Nat.zero_le _, rfl, H0⟩
  case round =>
    clear H0
    obtain ⟨i, c, ad, hi, rfl, HJ⟩ := hrel
    have hPw : Pl wr w.heap.size C p := H2.out.1.on (by rw [HG.out]; exact HJ.out.2.2)
    have c1 := hPw.cells.2.1
    rw [HNN.out] at c1
    clear hPw
    by_cases hlt : i < N
    · have q1 : (i : Int) < (N : Int) := by omega
      have c2 : wr.cell? ⟨g5, 1, none⟩ = some (.slice ad i c) := HJ.out.1.cell 1
      have hb0 : Below wr.heap.size wr (wr.alloc (.cells (gcs Gt.none).toArray 49)) := below_alloc wr _
      have HA : Hid (GE.Own (wr.alloc (.cells (gcs Gt.none).toArray 49)) (g5 + 1) ad i c (List.replicate i Gt.none) ∧ GE.Row (wr.alloc (.cells (gcs Gt.none).toArray 49)) Any (some ⟨wr.heap.size, 0, none⟩) 1 [Gt.none]) := Lib.hid ⟨HJ.out.2.1.below hb0, GE.row_one (Whole.new wr _ _) trivial ⟨⟨by decide, by decide⟩, ⟨by decide, by decide⟩, ⟨by decide, by decide⟩⟩⟩
      have hs5 : g5 + 1 ≤ wr.heap.size := HJ.out.1.lt
      clear hb0
      go_wp2_with (first | ((with_reducible show wpList _ _ _ ((⟨_, Op.build 49 _, _, _, _, _⟩ : Oper) :: _) _ _); refine wpList_built rfl _ rfl [(0, .int .i64 (-1))] rfl (gcs Gt.none) (by kernel_rfl) ?_) | ((with_reducible show wpList _ _ _ ((⟨some 22, Op.buildSlice _ 1 _, _, _, _, _⟩ : Oper) :: _) _ _); refine GE.wpList_build1 (by rfl) 21 rfl Gt.none rfl ?_) | (at_builtin; refine GE.wpList_append _ (by rfl) (.tmp 20) (.tmp 22) rfl (g5 + 1) (.slice ad i c) i (GE.flat (List.replicate i Gt.none)) rfl HA.out.1.own Any (some ⟨wr.heap.size, 0, none⟩) 1 1 [Gt.none] rfl HA.out.2 (by omega) (by omega) (by simp; omega) ?_) | fail)
      intro v5 w5 hown hg _
      obtain ⟨a5, c5, rfl, h5⟩ := GE.own_add HA.out.1 ⟨⟨by decide, by decide⟩, ⟨by decide, by decide⟩, ⟨by decide, by decide⟩⟩ hown
      have hne : ∀ b, (Value.slice ad i c).ownBlock = some b → g5 + 1 ≤ b := fun b hb => Elem.own_ge HA.out.1.own b hb
      have hw5 : Whole w5 g5 30 (acs now ad i c) := (HJ.out.1.alloc _).grown hg (fun e => by have := hne g5 e.symm; omega)
      have hb5 : Below g5 w2 w5 := (HJ.out.2.2.alloc (by omega) _).grown hg (by simp; omega) (fun k hk => by have := hne k hk; omega)
      have cs : w5.cell? ⟨g5, 1, none⟩ = some (.slice ad i c) := hw5.cell 1
      have fs : w5.frozen? ⟨g5, 1, none⟩ = false := hw5.frozen 1
      have HV : Hid (Whole (w5.setCell ⟨g5, 1, none⟩ (.slice a5 (i + 1) c5)) g5 30 (acs now a5 (i + 1) c5) ∧ GE.Own (w5.setCell ⟨g5, 1, none⟩ (.slice a5 (i + 1) c5)) (g5 + 1) a5 (i + 1) c5 (List.replicate (i + 1) Gt.none) ∧ Below g5 w2 (w5.setCell ⟨g5, 1, none⟩ (.slice a5 (i + 1) c5))) := Lib.hid ⟨hw5.set 1 _, by
        rw [List.replicate_succ']
        exact ⟨Elem.own_keep h5.own (fun b hq => heap_setCell_other _ _ _ _ (by have := Elem.own_ge h5.own b hq; show b ≠ g5; omega)), h5.mem, h5.len⟩, hb5.setCell (p := ⟨g5, 1, none⟩) (Nat.le_refl _) _⟩
      clear hown hg h5 hne hw5 hb5 HA c1 c2
      go_wp2
      exact ⟨⟨i + 1, c5, a5, by omega, by go_num, HV⟩, by simp [intOf] <;> omega⟩
    · obtain rfl : i = N := by omega
      have q1 : ¬ ((i : Int) < (i : Int)) := by omega
      have HA : Hid (Acc (wr.setRow (w.heap.size + 1) (acs now ad i c)) (acs now ad i c) ⟨now, List.replicate i Gt.none⟩) := Lib.hid ⟨ad, i, c, rfl, by
        have h1 := HJ.out.2.1.row
        exact (h1.keep (by simp [World.setRow]) (fun b _ hb => setRow_other wr (w.heap.size + 1) b _ (by have h2 := H2.out.2.1.lt; rw [HG.out] at h2; omega))).any, HJ.out.2.1.cap, HN.out, by omega⟩
      have hz : Whole wr (w.heap.size + 1) 30 az := H2.out.2.1.below HJ.out.2.2 (by rw [← HG.out]; exact H2.out.2.1.lt)
      have HZ := Lib.hid (And.intro hz (H2.out.2.2.trans (HJ.out.2.2.mono (by rw [← HG.out]; exact H2.out.2.2.size))))
      clear hz
      go_wp2_with (first | ((with_reducible show wpList _ _ _ ((⟨_, Op.load 30 (.tmp 5), _, _, _, _⟩ : Oper) :: _) _ _); refine wpList_load_rowG (by rfl) _ (.tmp 5) rfl g5 rfl 30 (acs now ad i c) (0, 0) _ HJ.out.1 Try.underlying30 rfl info_acc ?_) | ((with_reducible show wpList _ _ _ ((⟨_, Op.store 30 (.tmp 4) _, _, _, _, _⟩ : Oper) :: _) _ _); refine wpList_store_row rfl 30 (.tmp 4) (.tmp 25) rfl (w.heap.size + 1) (acs now ad i c) rfl rfl 30 _ HZ.out.1 info_acc rfl (by simp [acs, Value.oneCell']) ?_) | fail)
      refine bodyPost_ret (results_one_cell rfl _ _ _ _ rfl (run_loadVar_row _ _ _ _ _ (0, 0) _ (HZ.out.1.row (acs now ad i c)) Try.underlying30 rfl info_acc)) rfl ?_
      rw [HE.out]
      exact ⟨_, rfl, HA.out, below_row HZ.out.2 (by omega) _⟩
end Go.Proofs.Ytalfcaepobbdeaa
