/-
  The walk of Decode of facts.
-/
import Derived.Test.YtcfchkffanfehaaIk
namespace Go.Proofs.Ytcfchkffanfehaa
set_option maxRecDepth 20000
set_option linter.unusedSimpArgs false
set_option linter.unusedVariables false
open Go.RowKit
theorem zf_one : zf.all (·.oneCell') = true := fcs_one zm_one
/-- The deferred function, behind a panic. -/
theorem caughtF (A E : Nat) (older : List PanicEntry) (pv : Value) (w : World) (old : Array Value) (hA : Whole w A 28 old) (ho : old.size = 38) (oe : Value) (hE : Whole w E 31 #[oe]) (hne : A ≠ E) :
    CallsD Try.prog 38 #[.pointer (some ⟨A, 0, none⟩), .pointer (some ⟨E, 0, none⟩)] (.panicking ({ v := .iface 31 pv, recovered := false } :: older)) w fun e u' w' =>
      e = .returned (.tuple #[]) ∧ u' = .panicking ({ v := .iface 31 pv, recovered := true } :: older) ∧ w' = (w.setRow A zf).setCell ⟨E, 0, none⟩ (.int .i64 100) := by
  have hE2 : Whole (w.setRow A zf) E 31 #[oe] := hE.rowFar (Ne.symm hne) _
  have c1 : (w.setRow A zf).cell? ⟨E, 0, none⟩ = some oe := hE2.cell 0
  have f1 : (w.setRow A zf).frozen? ⟨E, 0, none⟩ = false := hE2.frozen 0
  have hall := zf_one
  refine callsD_of_wpS Try.func38 rfl fun c₀ cs hu => ?_
  apply wpS_seq
  apply wpS_region
  simp [wpOpsS, go_sem, recoverD, hu, Try.ntmps38, Exit.thenS]
  refine wpS_cond (t := true) (by simp [Act.eval, Array.replicate]) ?_
  simp only [if_true]
  refine wpS_of_wp ?_
  go_wp2_with (first
    | ((with_reducible show wpList _ _ _ ((⟨_, Op.build 28 _, _, _, _, _⟩ : Oper) :: _) _ _); refine wpList_built rfl _ rfl _ rfl _ built_f0 ?_)
    | ((with_reducible show wpList _ _ _ ((⟨_, Op.store 28 _ _, _, _, _, _⟩ : Oper) :: _) _ _); refine wpList_store_row rfl _ (.tmp 0) (.tmp 4) rfl A zf rfl rfl 28 _ hA (by rw [zf_size]; exact info38) (by rw [zf_size]; exact ho) hall ?_))
  exact ⟨rfl, _, rfl, .tuple #[], by simp [results, Try.results38], rfl, rfl, rfl⟩
theorem idleF (A E : Nat) (w : World) :
    CallsD Try.prog 38 #[.pointer (some ⟨A, 0, none⟩), .pointer (some ⟨E, 0, none⟩)] .returning w fun e u' w' => e = .returned (.tuple #[]) ∧ u' = .returning ∧ w' = w := by
  refine callsD_of_wpS Try.func38 rfl fun c₀ cs hu => ?_
  apply wpS_seq
  apply wpS_region
  simp [wpOpsS, go_sem, recoverD, hu, Try.ntmps38, Exit.thenS]
  refine wpS_cond (t := false) (by simp [Act.eval, Array.replicate]) ?_
  simp only [Bool.false_eq_true, if_false]
  refine wpS_of_wp (wp_skip ?_)
  cases c₀
  simp_all [bodyPostS, results, Try.results38]
/-- What Decode answers. -/
def Decf (w : World) (l : List Int) (e : Ending) (w' : World) : Prop :=
  ((∃ v f, Ft.dec l = some f ∧ e = .returned (.tuple #[v, .int .i64 0]) ∧ Fv w' (w.heap.size ≤ ·) v f) ∨ (Ft.dec l = none ∧ e = .returned (.tuple #[.agg zf, .int .i64 100]))) ∧ Below w.heap.size w w'
set_option maxHeartbeats 2000000 in
theorem fdecode_any {w : World} {S : Nat → Prop} {a : Option Addr} {n c : Nat} {l : List Int} (ht : Txt w S a n c l) (hn : n ≤ 1000000) :
    Calls Try.prog 23 #[.slice a n c] w (Decf w l) := by
  have hmf : ∀ (fn : Fn) (first cap : Array Value) (w : World), (Instr.makeFunc fn first cap).run Try.prog w = .ok (.func fn first cap) w := fun _ _ _ _ => rfl
  have HT := Lib.hid ht.old
  clear ht
  go_enter_defers Try.func23, Try.ntmps23
  go_wp2_with fail
  rw [zeroF]
  have ka := (Whole.new w 28 zf).alloc (.cells #[.int .i64 0] 31)
  have ke := Whole.new (w.alloc (.cells zf 28)) 31 #[.int .i64 0]
  rw [size_alloc] at ke
  have hb2 := below_two w (.cells zf 28) (.cells #[.int .i64 0] 31)
  generalize (w.alloc (.cells zf 28)).alloc (.cells #[.int .i64 0] 31) = w2 at *
  have HT2 := HT.out.below hb2 (fun b _ h => h)
  refine (fread_any HT2 hn).mono ?_
  rintro e w4 ⟨hd, hb4⟩
  have H4 := Lib.hid (And.intro (ka.below hb4 ka.lt) (And.intro (ke.below hb4 ke.lt) (hb2.trans (hb4.mono hb2.size))))
  have hlt2 : w.heap.size + 1 < w2.heap.size := ke.lt
  clear ka ke hb2 HT2 hb4
  rcases hd with ⟨v, f, hdec, rfl, hfv⟩ | ⟨hdec, rfl⟩
  · obtain ⟨P, M, rfl, hPE, hmv, hM, hin⟩ := fv_agg hfv
    have HMV := Lib.hid (And.intro hmv (And.intro hin hPE))
    have hP38 : P.size = 38 := by rw [hPE]; exact fcs_size hM
    have hP1 : P.all (·.oneCell') = true := by
      obtain ⟨P', e, hs, ha⟩ := mv_agg hmv
      injection e with e
      rw [hPE]
      exact fcs_one (fun u hu => Array.all_eq_true_iff_forall_mem.1 (by rw [e]; exact ha : M.toArray.all (·.oneCell') = true) u (by simpa using hu))
    have HDEC := Lib.hid hdec
    clear hPE hmv hM hin hfv hdec
    have hE5 : Whole (w4.setRow w.heap.size P) (w.heap.size + 1) 31 #[.int .i64 0] := H4.out.2.1.rowFar (by omega) _
    have c5 : (w4.setRow w.heap.size P).cell? ⟨w.heap.size + 1, 0, none⟩ = some (.int .i64 0) := hE5.cell 0
    have f5 : (w4.setRow w.heap.size P).frozen? ⟨w.heap.size + 1, 0, none⟩ = false := hE5.frozen 0
    go_wp2_with ((with_reducible show wpList _ _ _ ((⟨_, Op.store 28 _ _, _, _, _, _⟩ : Oper) :: _) _ _); refine wpList_store_row rfl _ (.tmp 2) (.tmp 6) rfl w.heap.size P rfl rfl 28 _ H4.out.1 (by rw [hP38]; exact info38) (by rw [hP38]; rfl) hP1 ?_)
    have kA : Whole ((w4.setRow w.heap.size P).setCell ⟨w.heap.size + 1, 0, none⟩ (.int .i64 0)) w.heap.size 28 P := (H4.out.1.row P).far (by show w.heap.size ≠ w.heap.size + 1; omega) _
    have kE : Whole ((w4.setRow w.heap.size P).setCell ⟨w.heap.size + 1, 0, none⟩ (.int .i64 0)) (w.heap.size + 1) 31 #[.int .i64 0] := hE5.set 0 _
    refine leaves_cons (f := 38) (args := #[.pointer (some ⟨w.heap.size, 0, none⟩), .pointer (some ⟨w.heap.size + 1, 0, none⟩)]) (by simp) (by simp [go_sem]) ?_
    refine (idleF _ _ _).mono ?_
    rintro e u' w'' ⟨rfl, rfl, rfl⟩
    refine ⟨_, results_two_cells rfl _ _ _ _ _ rfl rfl (loadVar38 kA hP38) (loadErr kE), Or.inl ⟨_, f, HDEC.out, rfl, ?_⟩, (below_row H4.out.2.2 (Nat.le_refl _) P).setCell (by show w.heap.size ≤ w.heap.size + 1; omega) _⟩
    refine ⟨M, by rw [← HMV.out.2.2], ?_, HMV.out.2.1⟩
    exact (HMV.out.1.keep (by simp [World.setRow]) (fun b _ hb => (Below.heap_setCell (w4.setRow w.heap.size P) ⟨w.heap.size + 1, 0, none⟩ _ b (by show b ≠ w.heap.size + 1; omega)).trans (setRow_other w4 w.heap.size b P (by omega)))).weak (fun b _ hb => by show w.heap.size ≤ b; omega)
  · refine leaves_cons (f := 38) (args := #[.pointer (some ⟨w.heap.size, 0, none⟩), .pointer (some ⟨w.heap.size + 1, 0, none⟩)]) (by simp) (by simp [go_sem]) ?_
    refine (caughtF w.heap.size (w.heap.size + 1) [] (.int .i64 100) w4 zf H4.out.1 zf_size (.int .i64 0) H4.out.2.1 (by omega)).mono ?_
    rintro e u' w'' ⟨rfl, rfl, rfl⟩
    have kA : Whole ((w4.setRow w.heap.size zf).setCell ⟨w.heap.size + 1, 0, none⟩ (.int .i64 100)) w.heap.size 28 zf := (H4.out.1.row zf).far (by show w.heap.size ≠ w.heap.size + 1; omega) _
    have kE : Whole ((w4.setRow w.heap.size zf).setCell ⟨w.heap.size + 1, 0, none⟩ (.int .i64 100)) (w.heap.size + 1) 31 #[.int .i64 100] := (H4.out.2.1.rowFar (by omega) zf).set 0 _
    exact ⟨_, results_two_cells rfl _ _ _ _ _ rfl rfl (loadVar38 kA zf_size) (loadErr kE), Or.inr ⟨hdec, rfl⟩, (below_row H4.out.2.2 (Nat.le_refl _) zf).setCell (by show w.heap.size ≤ w.heap.size + 1; omega) _⟩
end Go.Proofs.Ytcfchkffanfehaa
