/-
  The package's Held, Late, Fits and Slot of leases.
-/
import Derived.Test.YtegdopbiiddamaaSn
import Derived.Test.YtegdopbiiddamaaSe
namespace Go.Proofs.Ytegdopbiiddamaa
open Go.RowKit Go.Great
set_option linter.unusedVariables false
set_option linter.unusedSimpArgs false
set_option maxRecDepth 20000
theorem yields_cpl {ops : Array Oper} {S : World → Prop} {op : Oper} {a : Act} (hw : Region.wanted op (yielded ops a.tmps) = true) (x : Operand) (ho : op.op = .load 24 x)
    (b : Nat) (hx : a.eval x = .pointer (some ⟨b, 0, none⟩)) (C : Array Value) (hV : C.size = 11) (hS : ∀ w, S w → Whole w b 24 C) : YieldsIf Try.prog ops S op (.agg C) a :=
  .inl ⟨hw, fun w hw' => by
    unfold execOp
    simp only [ho, hx, Instr.loadAt, Instr.sureAddr, Sem.run_bind, Sem.run_pure, Result.andThen_ok, run_loadVar_row w b 24 24 C (0, 0) _ (hS w hw') Try.underlying24 rfl (by rw [hV]; exact info11)]⟩
theorem yields_cls {ops : Array Oper} {S : World → Prop} {op : Oper} {a : Act} (hw : Region.wanted op (yielded ops a.tmps) = true) (x : Operand) (ho : op.op = .load 26 x)
    (b : Nat) (hx : a.eval x = .pointer (some ⟨b, 0, none⟩)) (V : Array Value) (hV : V.size = 4) (hS : ∀ w, S w → Whole w b 26 V) : YieldsIf Try.prog ops S op (.agg V) a :=
  .inl ⟨hw, fun w hw' => by
    unfold execOp
    simp only [ho, hx, Instr.loadAt, Instr.sureAddr, Sem.run_bind, Sem.run_pure, Result.andThen_ok, run_loadVar_row w b 26 26 V (0, 0) _ (hS w hw') Try.underlying26 rfl (by rw [hV]; exact info_ls)]⟩
theorem Cls.asked {w0 w : World} {s no a : Int} {ad : Option Addr} {n c : Nat} {C : Array Value} {p : Dr.P} {l : Ln.L} (h : Cls w0 w C (lcs s no a ad n c) p l) : w.cell? ⟨w0.heap.size + 1, 2, none⟩ = some (.int .i64 a) := h.lb.1.cell 2
set_option maxHeartbeats 8000000 in
theorem held_any {w : World} {S : Nat → Prop} {C V : Array Value} {p : Dr.P} {l : Ln.L} (h : Cc w S C p) (ha : Lse w V l) (hn : l.fr.length ≤ 1000) (now : Int) :
    Calls Try.prog 14 #[.agg C, .agg V, .int .i64 now] w fun e w' => e = .returned (.bool (Ln.held p l now)) ∧ Below w.heap.size w w' := by
  have h11 := h.size
  obtain ⟨w1, hw1, hk⟩ := boxes_pl h ha
  have HW := Lib.hid hw1
  have HS := Lib.hid hk
  obtain ⟨ad, n, c, rfl, hrow, hnc, _⟩ := ha
  have HN := Lib.hid hn
  obtain ⟨r, hr⟩ : ∃ r, Ln.held p l now = r := ⟨_, rfl⟩
  rw [hr]
  have HR := Lib.hid hr
  clear h hw1 hk hrow hn hr
  go_enter Try.func14, Try.ntmps14
  go_upto_region 1 with fail
  rw [HW.out]
  have hHeld0 := HS.out.on (Below.refl _ _).drew
  have HS := Lib.hid hHeld0
  refine wp_region_held_drew (S := fun wq => Cls w wq C (lcs l.slot l.nonce l.asked ad n c) p l) (by kernel_rfl) hHeld0 (fun hHeld => ?_)
  generalize w1.drew = w2 at *
  clear hHeld0 HW
  refine wpAnyH_take (i := 0) (v := .agg C) rfl (by kernel_rfl) (by kernel_rfl) (by kernel_rfl) (fun _ _ _ h => h) (yields_cpl (by rfl) _ rfl w.heap.size rfl C h11 (fun wq hSw => hSw.pl.1)) (by assumption) ?_
  try simp only [Act.put, List.getElem_toArray, List.getElem_cons_zero, List.getElem_cons_succ, List.setIfInBounds_toArray, List.set_cons_zero, List.set_cons_succ]
  refine wpAnyH_take (i := 1) (v := .pointer (some ⟨w.heap.size + 1, 2, none⟩)) rfl (by kernel_rfl) (by kernel_rfl) (by kernel_rfl) (fun _ _ _ h => h) (Or.inl ⟨by rfl, (by intro w hSw; (try dsimp only at hSw); go_simp)⟩) (by assumption) ?_
  try simp only [Act.put, List.getElem_toArray, List.getElem_cons_zero, List.getElem_cons_succ, List.setIfInBounds_toArray, List.set_cons_zero, List.set_cons_succ]
  refine wpAnyH_take (i := 2) (v := .int .i64 l.asked) rfl (by kernel_rfl) (by kernel_rfl) (by kernel_rfl) (fun _ _ _ h => h) (Or.inl ⟨by rfl, (by intro wq hSw; have hq := hSw.asked; clear hSw; go_simp)⟩) (by assumption) ?_
  try simp only [Act.put, List.getElem_toArray, List.getElem_cons_zero, List.getElem_cons_succ, List.setIfInBounds_toArray, List.set_cons_zero, List.set_cons_succ]
  refine wpAnyH_take (i := 3) (v := .int .i64 now) rfl (by kernel_rfl) (by kernel_rfl) (by kernel_rfl) (fun _ _ _ h => h) (Or.inl ⟨by rfl, (by intro w hSw; (try dsimp only at hSw); go_simp)⟩) (by assumption) ?_
  try simp only [Act.put, List.getElem_toArray, List.getElem_cons_zero, List.getElem_cons_succ, List.setIfInBounds_toArray, List.set_cons_zero, List.set_cons_succ]
  refine wpAnyH_ready (rs := [4]) (by kernel_rfl) (by simp) (AllReadyH.cons rfl (fun K hK => ?_) AllReadyH.nil)
  try simp only [List.getElem_toArray, List.getElem_cons_zero, List.getElem_cons_succ]
  go_simp
  refine (holds_any HS.out.pl.2 l.asked now).mono ?_
  rintro e wa ⟨rfl, hb⟩
  obtain ⟨t, ht⟩ : ∃ t, p.holds l.asked now = t := ⟨_, rfl⟩
  rw [ht]
  have HT := Lib.hid ht
  clear ht
  refine hK.out _ _ (HS.out.on hb) (fun hHeld => ?_)
  clear hK K
  try simp only [Act.put, List.getElem_toArray, List.getElem_cons_zero, List.getElem_cons_succ, List.setIfInBounds_toArray, List.set_cons_zero, List.set_cons_succ]
  have HS := Lib.hid (HS.out.on hb)
  clear hb
  cases t
  case false =>
    have HE : Hid (r = false) := Lib.hid (by rw [← HR.out]; unfold Ln.held; rw [HT.out]; rfl)
    refine wpAnyH_take (i := 5) (v := .bool false) rfl (by kernel_rfl) (by kernel_rfl) (by kernel_rfl) (fun _ _ _ h => h) (Or.inl ⟨by rfl, (by intro w hSw; (try dsimp only at hSw); go_simp)⟩) (by assumption) ?_
    try simp only [Act.put, List.getElem_toArray, List.getElem_cons_zero, List.getElem_cons_succ, List.setIfInBounds_toArray, List.set_cons_zero, List.set_cons_succ]
    refine wpAnyH_take (i := 6) (v := undef) rfl (by kernel_rfl) (by kernel_rfl) (by kernel_rfl) (fun _ _ _ h => h) (Or.inr ⟨by rfl, rfl⟩) (by assumption) ?_
    try simp only [Act.put, List.getElem_toArray, List.getElem_cons_zero, List.getElem_cons_succ, List.setIfInBounds_toArray, List.set_cons_zero, List.set_cons_succ]
    refine wpAnyH_take (i := 7) (v := undef) rfl (by kernel_rfl) (by kernel_rfl) (by kernel_rfl) (fun _ _ _ h => h) (Or.inr ⟨by rfl, rfl⟩) (by assumption) ?_
    try simp only [Act.put, List.getElem_toArray, List.getElem_cons_zero, List.getElem_cons_succ, List.setIfInBounds_toArray, List.set_cons_zero, List.set_cons_succ]
    refine wpAnyH_take (i := 8) (v := undef) rfl (by kernel_rfl) (by kernel_rfl) (by kernel_rfl) (fun _ _ _ h => h) (Or.inr ⟨by rfl, rfl⟩) (by assumption) ?_
    try simp only [Act.put, List.getElem_toArray, List.getElem_cons_zero, List.getElem_cons_succ, List.setIfInBounds_toArray, List.set_cons_zero, List.set_cons_succ]
    refine wpAnyH_take (i := 9) (v := undef) rfl (by kernel_rfl) (by kernel_rfl) (by kernel_rfl) (fun _ _ _ h => h) (Or.inr ⟨by rfl, rfl⟩) (by assumption) ?_
    try simp only [Act.put, List.getElem_toArray, List.getElem_cons_zero, List.getElem_cons_succ, List.setIfInBounds_toArray, List.set_cons_zero, List.set_cons_succ]
    refine wpAnyH_take (i := 10) (v := undef) rfl (by kernel_rfl) (by kernel_rfl) (by kernel_rfl) (fun _ _ _ h => h) (Or.inr ⟨by rfl, rfl⟩) (by assumption) ?_
    try simp only [Act.put, List.getElem_toArray, List.getElem_cons_zero, List.getElem_cons_succ, List.setIfInBounds_toArray, List.set_cons_zero, List.set_cons_succ]
    refine wpAnyH_take (i := 11) (v := undef) rfl (by kernel_rfl) (by kernel_rfl) (by kernel_rfl) (fun _ _ _ h => h) (Or.inr ⟨by rfl, rfl⟩) (by assumption) ?_
    try simp only [Act.put, List.getElem_toArray, List.getElem_cons_zero, List.getElem_cons_succ, List.setIfInBounds_toArray, List.set_cons_zero, List.set_cons_succ]
    refine wpAnyH_take (i := 12) (v := .bool false) rfl (by kernel_rfl) (by kernel_rfl) (by kernel_rfl) (fun _ _ _ h => h) (Or.inl ⟨by rfl, (by intro w hSw; (try dsimp only at hSw); go_simp)⟩) (by assumption) ?_
    try simp only [Act.put, List.getElem_toArray, List.getElem_cons_zero, List.getElem_cons_succ, List.setIfInBounds_toArray, List.set_cons_zero, List.set_cons_succ]
    refine wpAnyH_take (i := 13) (v := .bool false) rfl (by kernel_rfl) (by kernel_rfl) (by kernel_rfl) (fun _ _ _ h => h) (Or.inl ⟨by rfl, (by intro w hSw; (try dsimp only at hSw); go_simp)⟩) (by assumption) ?_
    try simp only [Act.put, List.getElem_toArray, List.getElem_cons_zero, List.getElem_cons_succ, List.setIfInBounds_toArray, List.set_cons_zero, List.set_cons_succ]
    refine wpAnyH_done (by kernel_rfl) ?_ _
    go_wp2
    go_ret
    exact ⟨ret_bool HE.out.symm, HS.out.below⟩
  refine wpAnyH_take (i := 5) (v := .bool true) rfl (by kernel_rfl) (by kernel_rfl) (by kernel_rfl) (fun _ _ _ h => h) (Or.inl ⟨by rfl, (by intro w hSw; (try dsimp only at hSw); go_simp)⟩) (by assumption) ?_
  try simp only [Act.put, List.getElem_toArray, List.getElem_cons_zero, List.getElem_cons_succ, List.setIfInBounds_toArray, List.set_cons_zero, List.set_cons_succ]
  refine wpAnyH_take (i := 6) (v := .agg C) rfl (by kernel_rfl) (by kernel_rfl) (by kernel_rfl) (fun _ _ _ h => h) (yields_cpl (by rfl) _ rfl w.heap.size rfl C h11 (fun wq hSw => hSw.pl.1)) (by assumption) ?_
  try simp only [Act.put, List.getElem_toArray, List.getElem_cons_zero, List.getElem_cons_succ, List.setIfInBounds_toArray, List.set_cons_zero, List.set_cons_succ]
  refine wpAnyH_take (i := 7) (v := .agg (lcs l.slot l.nonce l.asked ad n c)) rfl (by kernel_rfl) (by kernel_rfl) (by kernel_rfl) (fun _ _ _ h => h) (yields_cls (by rfl) _ rfl (w.heap.size + 1) rfl (lcs l.slot l.nonce l.asked ad n c) rfl (fun wq hSw => hSw.lb.1)) (by assumption) ?_
  try simp only [Act.put, List.getElem_toArray, List.getElem_cons_zero, List.getElem_cons_succ, List.setIfInBounds_toArray, List.set_cons_zero, List.set_cons_succ]
  refine wpAnyH_take (i := 9) (v := .agg C) rfl (by kernel_rfl) (by kernel_rfl) (by kernel_rfl) (fun _ _ _ h => h) (yields_cpl (by rfl) _ rfl w.heap.size rfl C h11 (fun wq hSw => hSw.pl.1)) (by assumption) ?_
  try simp only [Act.put, List.getElem_toArray, List.getElem_cons_zero, List.getElem_cons_succ, List.setIfInBounds_toArray, List.set_cons_zero, List.set_cons_succ]
  have hok := (of_decide_eq_true HT.out).1
  have HE : Hid (r = decide (p.maj ≤ (Ln.grs p l : Int))) := Lib.hid (by rw [← HR.out]; unfold Ln.held Ln.grs; rw [HT.out, if_pos hok]; rfl)
  clear hok
  refine wpAnyH_ready (rs := [8]) (by kernel_rfl) (by simp) (AllReadyH.cons rfl (fun K hK => ?_) AllReadyH.nil)
  try simp only [List.getElem_toArray, List.getElem_cons_zero, List.getElem_cons_succ]
  go_simp
  refine (granters_any HS.out.pl.2 HS.out.lb.2 HN.out).mono ?_
  rintro e wb ⟨rfl, hb⟩
  refine hK.out _ _ (HS.out.on hb) (fun hHeld => ?_)
  clear hK K
  try simp only [Act.put, List.getElem_toArray, List.getElem_cons_zero, List.getElem_cons_succ, List.setIfInBounds_toArray, List.set_cons_zero, List.set_cons_succ]
  have HS := Lib.hid (HS.out.on hb)
  clear hb
  refine wpAnyH_ready (rs := [10]) (by kernel_rfl) (by simp) (AllReadyH.cons rfl (fun K hK => ?_) AllReadyH.nil)
  try simp only [List.getElem_toArray, List.getElem_cons_zero, List.getElem_cons_succ]
  go_simp
  refine (majority_any HS.out.pl.2).mono ?_
  rintro e wc ⟨rfl, hb⟩
  obtain ⟨b2, hb2⟩ : ∃ b, decide (p.maj ≤ (Ln.grs p l : Int)) = b := ⟨_, rfl⟩
  have hq : decide ((Ln.grs p l : Int) ≥ p.maj) = b2 := hb2
  rw [hb2] at HE
  refine hK.out _ _ (HS.out.on hb) (fun hHeld => ?_)
  clear hK K
  try simp only [Act.put, List.getElem_toArray, List.getElem_cons_zero, List.getElem_cons_succ, List.setIfInBounds_toArray, List.set_cons_zero, List.set_cons_succ]
  have HS := Lib.hid (HS.out.on hb)
  clear hb
  refine wpAnyH_take (i := 11) (v := .bool b2) rfl (by kernel_rfl) (by kernel_rfl) (by kernel_rfl) (fun _ _ _ h => h) (Or.inl ⟨by rfl, (by intro w hSw; (try dsimp only at hSw); go_simp)⟩) (by assumption) ?_
  try simp only [Act.put, List.getElem_toArray, List.getElem_cons_zero, List.getElem_cons_succ, List.setIfInBounds_toArray, List.set_cons_zero, List.set_cons_succ]
  refine wpAnyH_take (i := 12) (v := .bool b2) rfl (by kernel_rfl) (by kernel_rfl) (by kernel_rfl) (fun _ _ _ h => h) (Or.inl ⟨by rfl, (by intro w hSw; (try dsimp only at hSw); go_simp)⟩) (by assumption) ?_
  try simp only [Act.put, List.getElem_toArray, List.getElem_cons_zero, List.getElem_cons_succ, List.setIfInBounds_toArray, List.set_cons_zero, List.set_cons_succ]
  refine wpAnyH_take (i := 13) (v := .bool b2) rfl (by kernel_rfl) (by kernel_rfl) (by kernel_rfl) (fun _ _ _ h => h) (Or.inl ⟨by rfl, (by intro w hSw; (try dsimp only at hSw); go_simp)⟩) (by assumption) ?_
  try simp only [Act.put, List.getElem_toArray, List.getElem_cons_zero, List.getElem_cons_succ, List.setIfInBounds_toArray, List.set_cons_zero, List.set_cons_succ]
  refine wpAnyH_done (by kernel_rfl) ?_ _
  go_wp2
  go_ret
  exact ⟨ret_bool HE.out.symm, HS.out.below⟩
set_option maxHeartbeats 8000000 in
theorem late_l_any {w : World} {S : Nat → Prop} {C V : Array Value} {p : Dr.P} {l : Ln.L} (h : Cc w S C p) (ha : Lse w V l) (hn : l.fr.length ≤ 1000) (now : Int) :
    Calls Try.prog 16 #[.agg C, .agg V, .int .i64 now] w fun e w' => e = .returned (.bool (Ln.late p l now)) ∧ Below w.heap.size w w' := by
  have h11 := h.size
  obtain ⟨w1, hw1, hk⟩ := boxes_pl h ha
  have HW := Lib.hid hw1
  have HK := Lib.hid hk
  obtain ⟨ad, n, c, rfl, hrow, hnc, _⟩ := ha
  have HN := Lib.hid hn
  obtain ⟨t, ht⟩ : ∃ t, Ln.late p l now = t := ⟨_, rfl⟩
  rw [ht]
  have HT := Lib.hid ht
  clear h hw1 hk hrow hn ht
  go_enter Try.func16, Try.ntmps16
  go_upto_region 1 with fail
  rw [HW.out]
  go_wp2_with (first | ((with_reducible show wpList _ _ _ ((⟨some 7, Op.load 24 (.tmp 3), _, _, _, _⟩ : Oper) :: _) _ _); refine wpList_load_rowG (by rfl) _ (.tmp 3) rfl w.heap.size rfl 24 C (0, 0) _ HK.out.pl.1 Try.underlying24 rfl (by rw [h11]; exact info11) ?_) | fail)
  refine (lmay_any HK.out.pl.2).mono ?_
  rintro e w2 ⟨rfl, hb⟩
  have HK := Lib.hid (HK.out.on hb)
  clear hb
  by_cases hok : p.ok
  case neg =>
    have HE : Hid (t = false) := Lib.hid (by rw [← HT.out]; unfold Ln.late; rw [decide_eq_false hok]; rfl)
    rw [decide_eq_false hok]
    clear hok
    go_wp2
    go_ret
    exact ⟨ret_bool HE.out.symm, HK.out.below⟩
  have HO : Hid (t = (!Ln.held p l now || p.late l.asked now)) := Lib.hid (by rw [← HT.out]; unfold Ln.late; rw [decide_eq_true hok]; rfl)
  rw [decide_eq_true hok]
  clear hok
  go_wp2_with (first | ((with_reducible show wpList _ _ _ ((⟨some 10, Op.load 24 (.tmp 3), _, _, _, _⟩ : Oper) :: _) _ _); refine wpList_load_rowG (by rfl) _ (.tmp 3) rfl w.heap.size rfl 24 C (0, 0) _ HK.out.pl.1 Try.underlying24 rfl (by rw [h11]; exact info11) ?_) | ((with_reducible show wpList _ _ _ ((⟨some 11, Op.load 26 (.tmp 4), _, _, _, _⟩ : Oper) :: _) _ _); refine wpList_load_rowG (by rfl) _ (.tmp 4) rfl (w.heap.size + 1) rfl 26 (lcs l.slot l.nonce l.asked ad n c) (0, 0) _ HK.out.lb.1 Try.underlying26 rfl info_ls ?_) | fail)
  refine (held_any HK.out.pl.2 HK.out.lb.2 HN.out now).mono ?_
  rintro e w3 ⟨rfl, hb⟩
  have HK := Lib.hid (HK.out.on hb)
  clear hb
  obtain ⟨b, hb⟩ : ∃ b, Ln.held p l now = b := ⟨_, rfl⟩
  rw [hb] at HO ⊢
  clear hb
  cases b
  case false =>
    have HE : Hid (t = true) := Lib.hid (by rw [HO.out]; rfl)
    go_wp2
    go_ret
    exact ⟨ret_bool HE.out.symm, HK.out.below⟩
  have s2 : w3.cell? ⟨w.heap.size + 1, 2, none⟩ = some (.int .i64 l.asked) := HK.out.lb.1.cell 2
  go_wp2_with (first | ((with_reducible show wpList _ _ _ ((⟨some 16, Op.load 24 (.tmp 3), _, _, _, _⟩ : Oper) :: _) _ _); refine wpList_load_rowG (by rfl) _ (.tmp 3) rfl w.heap.size rfl 24 C (0, 0) _ HK.out.pl.1 Try.underlying24 rfl (by rw [h11]; exact info11) ?_) | fail)
  refine (late_any HK.out.pl.2 l.asked now).mono ?_
  rintro e w4 ⟨rfl, hb⟩
  have HK := Lib.hid (HK.out.on hb)
  clear hb s2
  obtain ⟨b, hb⟩ : ∃ b, p.late l.asked now = b := ⟨_, rfl⟩
  rw [hb] at HO ⊢
  have HE : Hid (t = b) := Lib.hid HO.out
  clear hb
  go_wp2
  go_ret
  exact ⟨ret_bool HE.out.symm, HK.out.below⟩
set_option maxHeartbeats 8000000 in
theorem fits_l_any {w : World} {S : Nat → Prop} {C V : Array Value} {p : Dr.P} {l : Ln.L} (h : Cc w S C p) (ha : Lse w V l) (hn : l.fr.length ≤ 1000) (now : Int) : Calls Try.prog 18 #[.agg C, .agg V, .int .i64 now] w fun e w' => e = .returned (.bool (Ln.fits p l now)) ∧ Below w.heap.size w w' := by
  have h11 := h.size
  obtain ⟨w1, hw1, hk⟩ := boxes_pl h ha
  have HW := Lib.hid hw1
  have HK := Lib.hid hk
  obtain ⟨ad, n, c, rfl, hrow, hnc, _⟩ := ha
  have HN := Lib.hid hn
  obtain ⟨t, ht⟩ : ∃ t, Ln.fits p l now = t := ⟨_, rfl⟩
  rw [ht]
  have HT := Lib.hid ht
  clear h hw1 hk hrow hn ht
  go_enter Try.func18, Try.ntmps18
  go_upto_region 1 with fail
  rw [HW.out]
  go_wp2_with (first | ((with_reducible show wpList _ _ _ ((⟨some 7, Op.load 24 (.tmp 3), _, _, _, _⟩ : Oper) :: _) _ _); refine wpList_load_rowG (by rfl) _ (.tmp 3) rfl w.heap.size rfl 24 C (0, 0) _ HK.out.pl.1 Try.underlying24 rfl (by rw [h11]; exact info11) ?_) | ((with_reducible show wpList _ _ _ ((⟨some 8, Op.load 26 (.tmp 4), _, _, _, _⟩ : Oper) :: _) _ _); refine wpList_load_rowG (by rfl) _ (.tmp 4) rfl (w.heap.size + 1) rfl 26 (lcs l.slot l.nonce l.asked ad n c) (0, 0) _ HK.out.lb.1 Try.underlying26 rfl info_ls ?_) | fail)
  refine (held_any HK.out.pl.2 HK.out.lb.2 HN.out now).mono ?_
  rintro e w3 ⟨rfl, hb⟩
  have HK := Lib.hid (HK.out.on hb)
  clear hb
  by_cases hh : Ln.held p l now = true
  case neg =>
    have hh' : Ln.held p l now = false := by simpa using hh
    have HE : Hid (t = false) := Lib.hid (by rw [← HT.out]; unfold Ln.fits; rw [hh']; rfl)
    rw [hh']
    clear hh hh'
    go_wp2
    go_ret
    exact ⟨ret_bool HE.out.symm, HK.out.below⟩
  have hhold : p.holds l.asked now = true := by unfold Ln.held at hh; exact (Bool.and_eq_true_iff.1 hh).1
  obtain ⟨hok, ⟨w1', w2', w3'⟩, _⟩ := of_decide_eq_true hhold
  obtain ⟨_, _, _, ⟨⟨a1, a2⟩, _, ⟨a3, a4⟩, ⟨a5, a6⟩⟩, _⟩ := hok
  obtain ⟨ho, hho⟩ : ∃ x, p.hold = x := ⟨_, rfl⟩
  obtain ⟨gu, hgu⟩ : ∃ x, p.guard = x := ⟨_, rfl⟩
  obtain ⟨wo, hwo⟩ : ∃ x, p.work = x := ⟨_, rfl⟩
  have HE : Hid (t = decide (ho - (now - l.asked) > gu + wo)) := Lib.hid (by rw [← HT.out]; unfold Ln.fits; rw [hh, hho, hgu, hwo]; rfl)
  have c3 := HK.out.pl.more.1
  have c5 := HK.out.pl.more.2.1
  have c6 := HK.out.pl.more.2.2
  rw [hho] at c3 a1 a2
  rw [hgu] at c5 a3 a4
  rw [hwo] at c6 a5 a6
  have s2 : w3.cell? ⟨w.heap.size + 1, 2, none⟩ = some (.int .i64 l.asked) := HK.out.lb.1.cell 2
  obtain ⟨ak, hak⟩ : ∃ ak, l.asked = ak := ⟨_, rfl⟩
  rw [hak] at s2 HE w1' w2'
  have e1 : IntKind.i64.wrap (now - ak) = now - ak := by rw [IntKind.wrap_i64]; omega
  have e2 : IntKind.i64.wrap (ho - (now - ak)) = ho - (now - ak) := by rw [IntKind.wrap_i64]; omega
  have e3 : IntKind.i64.wrap (gu + wo) = gu + wo := by rw [IntKind.wrap_i64]; omega
  rw [hh]
  clear hh hhold hho hgu hwo w1' w2' w3' a1 a2 a3 a4 a5 a6 hak
  obtain ⟨bb, hbb⟩ : ∃ bb, decide (ho - (now - ak) > gu + wo) = bb := ⟨_, rfl⟩
  rw [hbb] at HE
  have hbb' : decide (gu + wo < ho - (now - ak)) = bb := hbb
  go_wp2
  go_ret
  exact ⟨ret_bool HE.out.symm, HK.out.below⟩
set_option maxHeartbeats 8000000 in
theorem slot_l_any {w : World} {S : Nat → Prop} {C : Array Value} {p : Dr.P} (h : Cc w S C p) (node n : Int) : Calls Try.prog 20 #[.agg C, .int .i64 node, .int .i64 n] w fun e w' => e = .returned (.int .i64 (Ln.slot p node n)) ∧ Below w.heap.size w w' := by
  have h11 := h.size
  have HK : Hid (Pl (w.alloc (.cells C 24)) w.heap.size C p ∧ Below w.heap.size w (w.alloc (.cells C 24))) := Lib.hid ⟨Pl.new h, below_alloc w _⟩
  obtain ⟨t, ht⟩ : ∃ t, Ln.slot p node n = t := ⟨_, rfl⟩
  rw [ht]
  have HT := Lib.hid ht
  have HNO : Hid (¬ (p.ok ∧ 0 ≤ node ∧ node ≤ 1000 ∧ 0 ≤ n ∧ n ≤ 1099511627776) → t = 0) := Lib.hid fun hno => by rw [← HT.out]; exact if_neg hno
  clear h ht
  go_enter Try.func20, Try.ntmps20
  go_upto_region 1 with fail
  generalize w.alloc (.cells C 24) = w1 at *
  go_wp2_with (first | ((with_reducible show wpList _ _ _ ((⟨some 7, Op.load 24 (.tmp 3), _, _, _, _⟩ : Oper) :: _) _ _); refine wpList_load_rowG (by rfl) _ (.tmp 3) rfl w.heap.size rfl 24 C (0, 0) _ HK.out.1.1 Try.underlying24 rfl (by rw [h11]; exact info11) ?_) | fail)
  refine (lmay_any HK.out.1.2).mono ?_
  rintro e w2 ⟨rfl, hb⟩
  have HK := Lib.hid (And.intro (HK.out.1.on hb) (HK.out.2.trans (hb.mono HK.out.2.size)))
  clear hb
  by_cases hok : p.ok
  case neg =>
    have HE : Hid (t = 0) := Lib.hid (HNO.out fun h => hok h.1)
    rw [decide_eq_false hok]
    clear hok
    go_wp2
    go_ret
    exact ⟨ret_i64 HE.out.symm, HK.out.2⟩
  rw [decide_eq_true hok]
  obtain ⟨K, hK⟩ : ∃ K : Nat, p.slots = (K : Int) := ⟨p.slots.toNat, by have := hok.2.1.1; omega⟩
  have hK9 : 1 ≤ K ∧ K ≤ 9 := by have h1 := hok.2.1; have h2 := hok.1; unfold Dr.P.g1 at h1; unfold Dr.P.g0 at h2; omega
  have HOK := Lib.hid (And.intro hok hK)
  have c1 := HK.out.1.cells.2.1
  rw [hK] at c1
  clear hok hK
  by_cases z1 : node < 0
  · have HE : Hid (t = 0) := Lib.hid (HNO.out fun h => by omega)
    go_wp2
    go_ret
    exact ⟨ret_i64 HE.out.symm, HK.out.2⟩
  by_cases z2 : node > 1000
  · have HE : Hid (t = 0) := Lib.hid (HNO.out fun h => by omega)
    go_wp2
    go_ret
    exact ⟨ret_i64 HE.out.symm, HK.out.2⟩
  by_cases z3 : n < 0
  · have HE : Hid (t = 0) := Lib.hid (HNO.out fun h => by omega)
    go_wp2
    go_ret
    exact ⟨ret_i64 HE.out.symm, HK.out.2⟩
  by_cases z4 : n > 1099511627776
  · have HE : Hid (t = 0) := Lib.hid (HNO.out fun h => by omega)
    go_wp2
    go_ret
    exact ⟨ret_i64 HE.out.symm, HK.out.2⟩
  have HE : Hid (t = (node + n) % (K : Int)) := Lib.hid (by
    rw [← HT.out]
    unfold Ln.slot
    rw [if_pos ⟨HOK.out.1, by omega, by omega, by omega, by omega⟩, HOK.out.2])
  have d4 : decide (n > 1099511627776) = false := decide_eq_false z4
  have e1 : IntKind.i64.wrap (node + n) = node + n := by rw [IntKind.wrap_i64]; omega
  have hm0 := Int.emod_nonneg (node + n) (show (K : Int) ≠ 0 by omega)
  have hm1 := Int.emod_lt_of_pos (node + n) (show (0 : Int) < (K : Int) by omega)
  have e2 : (node + n).tmod (K : Int) = (node + n) % (K : Int) := Int.tmod_eq_emod_of_nonneg (by omega)
  have e3 : IntKind.i64.wrap ((node + n) % (K : Int)) = (node + n) % (K : Int) := by rw [IntKind.wrap_i64]; omega
  have k0 : ¬ (K = 0) := by omega
  clear hm0 hm1
  go_wp2
  go_ret
  exact ⟨ret_i64 HE.out.symm, HK.out.2⟩
end Go.Proofs.Ytegdopbiiddamaa
