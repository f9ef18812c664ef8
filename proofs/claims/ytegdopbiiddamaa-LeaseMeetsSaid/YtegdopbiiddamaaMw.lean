/-
  The package's changed: an acceptor in memory of its own, with what a function that is handed over makes of a slot's grant.
-/
import Derived.Test.YtegdopbiiddamaaMv
import Derived.Test.YtegdopbiiddamaaMn
namespace Go.Proofs.Ytegdopbiiddamaa.Gt
/-- What changed answers. -/
def chg (p : Dr.P) (a : A) (s : Int) (f : G → G × Bool) : A × Bool := if may p a s ∧ (f (at_ a s)).2 = true then (put a s (f (at_ a s)).1, true) else (a, false)
end Go.Proofs.Ytegdopbiiddamaa.Gt
namespace Go.Proofs.Ytegdopbiiddamaa
open Go.RowKit Go.Great
set_option linter.unusedVariables false
set_option linter.unusedSimpArgs false
set_option maxRecDepth 20000
/-- What is asked of a function that is handed over. -/
def Chg (gf : Nat) (lb : Array Value) (f : Gt.G → Gt.G × Bool) (w : World) : Prop :=
  ∀ (W : World) (g : Gt.G), Below w.heap.size w W → Gin g → Calls Try.prog gf (#[.agg (gcs g).toArray] ++ lb) W fun e w' => e = .returned (.tuple #[.agg (gcs (f g).1).toArray, .bool (f g).2]) ∧ Below W.heap.size W w'
/-- What the walk keeps: the row that is the call's own, and the box of what is answered. -/
structure Oth (w0 w : World) (g h n : Nat) (boot : Int) (l : List Gt.G) : Prop where
  own : GE.Own w g (some ⟨g, 0, none⟩) n n l
  row : Whole w g 67 (GE.flat l).toArray
  box : Whole w h 45 (acs boot (some ⟨g, 0, none⟩) n n)
  ge : w0.heap.size + 1 + 1 < g
  ne : g < h
theorem Oth.on {w0 w w' : World} {g h n : Nat} {boot : Int} {l : List Gt.G} (o : Oth w0 w g h n boot l) (hb : Below w.heap.size w w') : Oth w0 w' g h n boot l := ⟨o.own.below hb, o.row.below hb o.row.lt, o.box.below hb o.box.lt, o.ge, o.ne⟩
theorem Oth.fin {w0 w : World} {g h n : Nat} {a : Gt.A} {l : List Gt.G} {boot : Int} (o : Oth w0 w g h n boot l) (hb : In64 boot) (hn : n ≤ 100) (e1 : a.boot = boot) (e2 : a.gs = l) : AccS (w.setRow (w0.heap.size + 1 + 1) (acs boot (some ⟨g, 0, none⟩) n n)) (fun b => w0.heap.size ≤ b) (acs boot (some ⟨g, 0, none⟩) n n) a := by
  refine ⟨some ⟨g, 0, none⟩, n, n, by rw [e1], ?_, Nat.le_refl _, by rw [e1]; exact hb, hn⟩
  have hge := o.ge
  rw [e2]
  exact (o.own.row.keep (by simp [World.setRow]) (fun b _ hb => setRow_other w (w0.heap.size + 1 + 1) b _ (by omega))).weak (fun b _ hb => by omega)
set_option maxHeartbeats 8000000 in
theorem changed_any {gf : Nat} {lb : Array Value} {f : Gt.G → Gt.G × Bool} {w : World} {S : Nat → Prop} {C V : Array Value} {p : Dr.P} {a : Gt.A} (eg : ∀ args w, (callFunc gf args).run Try.prog w = .ok (.enter gf args) w) (hp : Chg gf lb f w) (hf : ∀ g, Gin g → Gin (f g).1)
    (h : Cc w S C p) (ha : Acc w V a) (s : Int) :
    Calls Try.prog 45 #[.agg C, .agg V, .int .i64 s, .func (.func gf) #[] lb] w (AccBS w (fun b => w.heap.size ≤ b) (Gt.chg p a s f).1 (Gt.chg p a s f).2) := by
  have h11 := h.size
  obtain ⟨w1, hw1, hP, hA, hZ, hb1⟩ := boxes_paz h ha
  have hsz : w1.heap.size = w.heap.size + 1 + 1 + 1 := by rw [← hw1, size_alloc, size_alloc, size_alloc]
  have HW := Lib.hid hw1
  have HF := Lib.hid (And.intro hp hf)
  obtain ⟨ad, n, c, rfl, hrow, hnc, hbt, hn⟩ := ha
  have hrow1 := hrow.on hb1
  have HK : Hid (Cal w w1 C (acs a.boot ad n c) p a) := Lib.hid ⟨hP, hA, hZ, hb1⟩
  have HL := Lib.hid (And.intro hrow.1 (And.intro hrow.2.1 (And.intro hbt hn)))
  have HR := Lib.hid hrow1
  obtain ⟨mc, hmc, hml⟩ : ∃ mc : List Value, madeCells GE.zero.cells (n * GE.K) = mc.toArray ∧ mc.length = n * GE.K := ⟨(madeCells GE.zero.cells (n * GE.K)).toList, by simp, by simp [size_madeCells]⟩
  have hmk : ∀ w, (Instr.makeSlice 43 (.int .i64 (n : Int)) (.int .i64 (n : Int))).run Try.prog w = .ok (.slice (some ⟨w.heap.size, 0, none⟩) n n) (w.alloc (.cells mc.toArray 67)) := fun w => by rw [← hmc]; exact GE.run_makeE n (by omega) w
  obtain ⟨gb, hgb⟩ : ∃ gb, w1.heap.size = gb := ⟨_, rfl⟩
  have hWn : Whole (w1.alloc (.cells mc.toArray 67)) gb 67 mc.toArray := by rw [← hgb]; exact Whole.new w1 _ _
  have HGB : Hid (gb = w.heap.size + 1 + 1 + 1) := Lib.hid (by rw [← hgb]; exact hsz)
  have HM := Lib.hid (And.intro hWn hml)
  clear hWn hml hsz hmc
  obtain ⟨r, hr⟩ : ∃ r, Gt.chg p a s f = r := ⟨_, rfl⟩
  rw [hr]
  have HRR := Lib.hid hr
  have HNO : Hid (¬ (Gt.may p a s ∧ (f (Gt.at_ a s)).2 = true) → r = (a, false)) := Lib.hid fun hno => by rw [← HRR.out]; exact if_neg hno
  have HYES : Hid (Gt.may p a s ∧ (f (Gt.at_ a s)).2 = true → r = (Gt.put a s (f (Gt.at_ a s)).1, true)) := Lib.hid fun hy => by rw [← HRR.out]; exact if_pos hy
  have c1 : w1.cell? ⟨w.heap.size + 1, 1, none⟩ = some (.slice ad n c) := hA.1.cell 1
  clear h hw1 hP hA hZ hb1 hrow hrow1 hbt hr hp hf
  go_enter Try.func45, Try.ntmps45
  go_upto_region 1 with fail
  rw [← az_is, HW.out]
  go_upto_region 2 with fail
  have hba := below_alloc w1 (.cells mc.toArray 67)
  have HR := Lib.hid (HR.out.on hba)
  have c2 := (HK.out.on hba).ab.1.cell 1
  rw [hgb] at hba
  have hcp : ∀ ty, (Builtin.copy_ #[43, 43] ty #[.slice (some ⟨gb, 0, none⟩) n n, .slice ad n c]).run Try.prog (w1.alloc (.cells mc.toArray 67)) = .ok (.int .i64 (n : Int)) ((w1.alloc (.cells mc.toArray 67)).setRow gb (GE.flat a.gs).toArray) := GE.run_copyE (c := c) (c' := n) HR.out HM.out.1 HM.out.2
  have hW3 : Whole ((w1.alloc (.cells mc.toArray 67)).setRow gb (GE.flat a.gs).toArray) gb 67 (GE.flat a.gs).toArray := HM.out.1.row _
  have hb3 : Below gb w1 ((w1.alloc (.cells mc.toArray 67)).setRow gb (GE.flat a.gs).toArray) := below_row hba (Nat.le_refl _) _
  have c1 : (w1.alloc (.cells mc.toArray 67)).cell? ⟨w.heap.size + 1, 1, none⟩ = some (.slice ad n c) := c2
  clear c2 hba hmk HM HR
  go_upto_region 3 with fail
  clear hcp c1
  have HK := Lib.hid (HK.out.on (by rw [hgb]; exact hb3))
  have HO : Hid (GE.Own ((w1.alloc (.cells mc.toArray 67)).setRow gb (GE.flat a.gs).toArray) gb (some ⟨gb, 0, none⟩) n n a.gs ∧ Whole ((w1.alloc (.cells mc.toArray 67)).setRow gb (GE.flat a.gs).toArray) gb 67 (GE.flat a.gs).toArray) := Lib.hid ⟨GE.own_whole hW3 (Nat.le_refl _) HL.out.1 HL.out.2.1 (by omega), hW3⟩
  clear hW3 hb3 hgb
  generalize (w1.alloc (.cells mc.toArray 67)).setRow gb (GE.flat a.gs).toArray = w3 at *
  have cb : w3.cell? ⟨w.heap.size + 1, 0, none⟩ = some (.int .i64 a.boot) := HK.out.ab.1.cell 0
  go_upto_region 4 with (first | ((with_reducible show wpList _ _ _ ((⟨_, Op.build 45 _, _, _, _, _⟩ : Oper) :: _) _ _); refine wpList_built rfl _ rfl [(0, .int .i64 a.boot), (1, .slice (some ⟨gb, 0, none⟩) n n)] rfl (acs a.boot (some ⟨gb, 0, none⟩) n n).toList (built_aa _ _ _ _) ?_) | ((with_reducible show wpList _ _ _ ((⟨_, Op.store 45 (.tmp 11) _, _, _, _, _⟩ : Oper) :: _) _ _); refine wpList_store_row rfl 45 (.tmp 11) (.tmp 25) rfl w3.heap.size (acs a.boot (some ⟨gb, 0, none⟩) n n) rfl rfl 45 _ (Whole.new w3 45 az) info_acc rfl (by simp [acs, Value.oneCell']) ?_) | fail)
  rw [← az_is]
  have hge : w.heap.size + 1 + 1 < gb := by have := HGB.out; omega
  have hb4 : Below w3.heap.size w3 ((w3.alloc (.cells az 45)).setRow w3.heap.size (acs a.boot (some ⟨gb, 0, none⟩) n n)) := below_row (below_alloc w3 _) (Nat.le_refl _) _
  have HK := Lib.hid (HK.out.on hb4)
  have HO : Hid (Oth w ((w3.alloc (.cells az 45)).setRow w3.heap.size (acs a.boot (some ⟨gb, 0, none⟩) n n)) gb w3.heap.size n a.boot a.gs) := Lib.hid ⟨HO.out.1.below hb4, HO.out.2.below hb4 HO.out.2.lt, (Whole.new w3 _ _).row _, hge, HO.out.2.lt⟩
  clear hb4 cb c1
  generalize (w3.alloc (.cells az 45)).setRow w3.heap.size (acs a.boot (some ⟨gb, 0, none⟩) n n) = w4 at *
  generalize w3.heap.size = gh at *
  go_wp2_with (first | ((with_reducible show wpList _ _ _ ((⟨some 26, Op.load 24 (.tmp 4), _, _, _, _⟩ : Oper) :: _) _ _); refine wpList_load_rowG (by rfl) _ (.tmp 4) rfl w.heap.size rfl 24 C (0, 0) _ HK.out.pl.1 Try.underlying24 rfl (by rw [h11]; exact info11) ?_) | ((with_reducible show wpList _ _ _ ((⟨some 27, Op.load 45 (.tmp 5), _, _, _, _⟩ : Oper) :: _) _ _); refine wpList_load_rowG (by rfl) _ (.tmp 5) rfl (w.heap.size + 1) rfl 45 (acs a.boot ad n c) (0, 0) _ HK.out.ab.1 Try.underlying45 rfl info_acc ?_) | fail)
  refine (gslot_any HK.out.pl.2 HK.out.ab.2 s).mono ?_
  rintro e w5 ⟨rfl, hb⟩
  have HK := Lib.hid (HK.out.on hb)
  have HO := Lib.hid (HO.out.on hb)
  clear hb
  by_cases hm : Gt.may p a s
  case neg =>
    rw [decide_eq_false hm]
    have HE : Hid (r = (a, false)) := Lib.hid (HNO.out fun hg => hm hg.1)
    clear hm
    go_wp2_with (first | ((with_reducible show wpList _ _ _ ((⟨some 31, Op.load 45 (.tmp 11), _, _, _, _⟩ : Oper) :: _) _ _); refine wpList_load_rowG (by rfl) _ (.tmp 11) rfl gh rfl 45 (acs a.boot (some ⟨gb, 0, none⟩) n n) (0, 0) _ HO.out.box Try.underlying45 rfl info_acc ?_) | ((with_reducible show wpList _ _ _ ((⟨_, Op.store 45 (.tmp 8) _, _, _, _, _⟩ : Oper) :: _) _ _); refine wpList_store_row rfl 45 (.tmp 8) (.tmp 31) rfl (w.heap.size + 1 + 1) (acs a.boot (some ⟨gb, 0, none⟩) n n) rfl rfl 45 _ HK.out.z info_acc rfl (by simp [acs, Value.oneCell']) ?_) | fail)
    refine bodyPost_ret (results_cell_one rfl _ _ _ _ rfl (run_loadVar_row _ _ _ _ _ (0, 0) _ (HK.out.z.row (acs a.boot (some ⟨gb, 0, none⟩) n n)) Try.underlying45 rfl info_acc)) rfl ?_
    rw [HE.out]
    exact ⟨_, rfl, HO.out.fin HL.out.2.2.1 HL.out.2.2.2 rfl rfl, below_row HK.out.below (by omega) _⟩
  rw [decide_eq_true hm]
  obtain ⟨k, hk⟩ : ∃ k : Nat, s = (k : Int) := ⟨s.toNat, by have := hm.2.2.1; omega⟩
  have hkn : k < n := by have h1 := hm.2.1; have h2 := hm.2.2.2; rw [HL.out.1] at h1; omega
  have HM := Lib.hid hm
  subst hk
  clear hm
  obtain ⟨g, hg⟩ : ∃ g, a.gs.getD k Gt.none = g := ⟨_, rfl⟩
  have hgin : Gin g := by rw [← hg]; exact in_at HL.out.2.1 k
  have HGA : Hid (Gt.at_ a (k : Int) = g) := Lib.hid (by rw [gt_at rfl, hg])
  obtain ⟨b, off, eb, _, hbl, hrg⟩ := HO.out.own.row.at_ hkn
  injection eb with eb
  injection eb with eb1 eb2 eb3
  clear eb3
  subst eb1 eb2
  have e3 : GE.K = 3 := rfl
  have ez : GE.z = Gt.none := rfl
  rw [e3, ez, hg, Nat.zero_add] at hrg
  have HRG := Lib.hid hrg
  have hcall := HF.out.1 w5 g HK.out.below hgin
  have HFI := Lib.hid (HF.out.2 g hgin)
  obtain ⟨fg, hfg⟩ : ∃ x, f g = x := ⟨_, rfl⟩
  rw [hfg] at hcall HFI
  have HFG : Hid (f (Gt.at_ a (k : Int)) = fg) := Lib.hid (by rw [HGA.out, hfg])
  have HC := Lib.hid hcall
  clear hrg hg hgin hbl e3 ez hcall hfg
  go_upto_region 6 with fail
  go_wp2_with (first
    | ((with_reducible show wpList _ _ _ ((⟨_, Op.load 67 (.tmp 36), _, _, _, _⟩ : Oper) :: _) _ _); refine wpList_load_midE (by rfl) _ (.tmp 36) rfl gb (k * 3) rfl (gcs g) _ HRG.out Try.underlying67 rfl info_gr ?_)
    | fail)
  refine HC.out.mono ?_
  rintro e w6 ⟨rfl, hb6⟩
  go_upto_region 7 with (first
    | ((with_reducible show wpList _ _ _ ((⟨_, Op.store 67 (.tmp 12) _, _, _, _, _⟩ : Oper) :: _) _ _); refine wpList_store_row rfl 67 (.tmp 12) (.tmp 39) rfl w6.heap.size (gcs fg.1).toArray rfl rfl 67 gz.toArray (Whole.new w6 67 gz.toArray) info_gr rfl (gcs_one _) ?_)
    | fail)
  rw [← gz_is]
  have hb7 : Below w6.heap.size w6 ((w6.alloc (.cells gz.toArray 67)).setRow w6.heap.size (gcs fg.1).toArray) := below_row (below_alloc w6 _) (Nat.le_refl _) _
  have hbox : Whole ((w6.alloc (.cells gz.toArray 67)).setRow w6.heap.size (gcs fg.1).toArray) w6.heap.size 67 (gcs fg.1).toArray := (Whole.new w6 _ _).row _
  have HK := Lib.hid (HK.out.on (hb6.trans (hb7.mono hb6.size)))
  have HO := Lib.hid (HO.out.on (hb6.trans (hb7.mono hb6.size)))
  have HX := Lib.hid hbox
  clear hb6 hb7 hbox HC
  generalize (w6.alloc (.cells gz.toArray 67)).setRow w6.heap.size (gcs fg.1).toArray = w7 at *
  generalize w6.heap.size = gx at *
  obtain ⟨g', t⟩ := fg
  simp only at HFI HX ⊢
  cases t
  case false =>
    have HE : Hid (r = (a, false)) := Lib.hid (HNO.out fun hg => by rw [HFG.out] at hg; cases hg.2)
    go_wp2_with (first | ((with_reducible show wpList _ _ _ ((⟨some 46, Op.load 45 (.tmp 11), _, _, _, _⟩ : Oper) :: _) _ _); refine wpList_load_rowG (by rfl) _ (.tmp 11) rfl gh rfl 45 (acs a.boot (some ⟨gb, 0, none⟩) n n) (0, 0) _ HO.out.box Try.underlying45 rfl info_acc ?_) | ((with_reducible show wpList _ _ _ ((⟨_, Op.store 45 (.tmp 8) _, _, _, _, _⟩ : Oper) :: _) _ _); refine wpList_store_row rfl 45 (.tmp 8) (.tmp 46) rfl (w.heap.size + 1 + 1) (acs a.boot (some ⟨gb, 0, none⟩) n n) rfl rfl 45 _ HK.out.z info_acc rfl (by simp [acs, Value.oneCell']) ?_) | fail)
    refine bodyPost_ret (results_cell_one rfl _ _ _ _ rfl (run_loadVar_row _ _ _ _ _ (0, 0) _ (HK.out.z.row (acs a.boot (some ⟨gb, 0, none⟩) n n)) Try.underlying45 rfl info_acc)) rfl ?_
    rw [HE.out]
    exact ⟨_, rfl, HO.out.fin HL.out.2.2.1 HL.out.2.2.2 rfl rfl, below_row HK.out.below (by omega) _⟩
  have HE : Hid (r = (Gt.put a (k : Int) g', true)) := Lib.hid (by have := HYES.out ⟨HM.out, by rw [HFG.out]⟩; rw [HFG.out] at this; exact this)
  have hfl : (GE.flat a.gs).length = n * 3 := by rw [GE.flat_len, HL.out.1]; rfl
  have HFL : Hid (k * 3 + 3 ≤ (GE.flat a.gs).length) := Lib.hid (by rw [hfl]; omega)
  have HST : Hid (splice (GE.flat a.gs) (k * 3) (gcs g') = GE.flat (a.gs.set k g')) := Lib.hid (GE.flat_set a.gs k g' (by rw [HL.out.1]; exact hkn))
  clear hfl
  go_upto_region 9 with (first
    | ((with_reducible show wpList _ _ _ ((⟨_, Op.load 67 (.tmp 12), _, _, _, _⟩ : Oper) :: _) _ _); refine wpList_load_rowG (by rfl) _ (.tmp 12) rfl gx rfl 67 (gcs g').toArray (0, 0) _ HX.out Try.underlying67 rfl info_gr ?_)
    | ((with_reducible show wpList _ _ _ ((⟨_, Op.store 67 (.tmp 45) _, _, _, _, _⟩ : Oper) :: _) _ _); refine wpList_store_part rfl (n := 67) 67 (.tmp 45) (.tmp 44) rfl gb (k * 3) (gcs g') rfl rfl HO.out.row info_gr (fun v hv => GE.one g' v hv) HFL.out ?_)
    | fail)
  have hne : gb ≠ gh := by have := HO.out.ne; omega
  have HO8 : Hid (Oth w (w7.setRow gb (splice (GE.flat a.gs) (k * 3) (gcs g')).toArray) gb gh n a.boot (a.gs.set k g')) := Lib.hid (by
    rw [HST.out]
    have hw := HO.out.row.row (GE.flat (a.gs.set k g')).toArray
    refine ⟨GE.own_whole hw (Nat.le_refl _) (by rw [List.length_set]; exact HL.out.1) (fun y hy => ?_) (by omega), hw, HO.out.box.keep (setRow_other w7 gb gh _ (Ne.symm hne)), HO.out.ge, HO.out.ne⟩
    rcases List.mem_or_eq_of_mem_set hy with h1 | rfl
    · exact HL.out.2.1 _ h1
    · exact HFI.out)
  have HZ : Hid (Whole (w7.setRow gb (splice (GE.flat a.gs) (k * 3) (gcs g')).toArray) (w.heap.size + 1 + 1) 45 az ∧ Below w.heap.size w (w7.setRow gb (splice (GE.flat a.gs) (k * 3) (gcs g')).toArray)) := Lib.hid ⟨HK.out.z.keep (setRow_other w7 gb _ _ (by omega)), below_row HK.out.below (by omega) _⟩
  have HO := HO8
  clear HO8 HK HFL HX
  generalize w7.setRow gb (splice (GE.flat a.gs) (k * 3) (gcs g')).toArray = w8 at *
  go_wp2_with (first | ((with_reducible show wpList _ _ _ ((⟨some 46, Op.load 45 (.tmp 11), _, _, _, _⟩ : Oper) :: _) _ _); refine wpList_load_rowG (by rfl) _ (.tmp 11) rfl gh rfl 45 (acs a.boot (some ⟨gb, 0, none⟩) n n) (0, 0) _ HO.out.box Try.underlying45 rfl info_acc ?_) | ((with_reducible show wpList _ _ _ ((⟨_, Op.store 45 (.tmp 8) _, _, _, _, _⟩ : Oper) :: _) _ _); refine wpList_store_row rfl 45 (.tmp 8) (.tmp 46) rfl (w.heap.size + 1 + 1) (acs a.boot (some ⟨gb, 0, none⟩) n n) rfl rfl 45 _ HZ.out.1 info_acc rfl (by simp [acs, Value.oneCell']) ?_) | fail)
  refine bodyPost_ret (results_cell_one rfl _ _ _ _ rfl (run_loadVar_row _ _ _ _ _ (0, 0) _ (HZ.out.1.row (acs a.boot (some ⟨gb, 0, none⟩) n n)) Try.underlying45 rfl info_acc)) rfl ?_
  rw [HE.out]
  exact ⟨_, rfl, HO.out.fin HL.out.2.2.1 HL.out.2.2.2 rfl (by simp [Gt.put]), below_row HZ.out.2 (by omega) _⟩
end Go.Proofs.Ytegdopbiiddamaa
