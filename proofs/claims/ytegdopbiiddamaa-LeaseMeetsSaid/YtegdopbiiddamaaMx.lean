/-
  The closures that the package's Ask and Free hand over.
-/
import Derived.Test.YtegdopbiiddamaaMw
import Derived.RegionTactic
import Derived.ChangeAlike
import Derived.BigRegion
namespace Go.Proofs.Ytegdopbiiddamaa
open Go.RowKit Go.Great
set_option linter.unusedVariables false
set_option linter.unusedSimpArgs false
set_option maxRecDepth 20000
theorem cell_al {w : World} {p : Addr} {v : Value} (h : w.cell? p = some v) (o : Obj) : (w.alloc o).cell? p = some v := by
  have hlt := World.block_lt_of_cell? w _ h
  rw [← h]
  exact World.cell?_of_block (w := w) ((below_alloc w o).block _ hlt)
def ffree (node nonce : Int) (g : Gt.G) : Gt.G × Bool := (Gt.none, decide (g.node = node ∧ g.nonce = nonce))
theorem yields_gr {ops : Array Oper} {S : World → Prop} {op : Oper} {a : Act} (hw : Region.wanted op (yielded ops a.tmps) = true) (x : Operand) (ho : op.op = .load 67 x)
    (b : Nat) (hx : a.eval x = .pointer (some ⟨b, 0, none⟩)) (g : Gt.G) (hS : ∀ w, S w → Whole w b 67 (gcs g).toArray) : YieldsIf Try.prog ops S op (.agg (gcs g).toArray) a :=
  .inl ⟨hw, fun w hw' => by
    unfold execOp
    simp only [ho, hx, Instr.loadAt, Instr.sureAddr, Sem.run_bind, Sem.run_pure, Result.andThen_ok, run_loadVar_row w b 67 67 (gcs g).toArray (0, 0) _ (hS w hw') Try.underlying67 rfl info_gr]⟩
theorem yields_plc {ops : Array Oper} {S : World → Prop} {op : Oper} {a : Act} (hw : Region.wanted op (yielded ops a.tmps) = true) (x : Operand) (ho : op.op = .load 24 x)
    (b : Nat) (hx : a.eval x = .pointer (some ⟨b, 0, none⟩)) (C : Array Value) (hV : C.size = 11) (hS : ∀ w, S w → Whole w b 24 C) : YieldsIf Try.prog ops S op (.agg C) a :=
  .inl ⟨hw, fun w hw' => by
    unfold execOp
    simp only [ho, hx, Instr.loadAt, Instr.sureAddr, Sem.run_bind, Sem.run_pure, Result.andThen_ok, run_loadVar_row w b 24 24 C (0, 0) _ (hS w hw') Try.underlying24 rfl (by rw [hV]; exact info11)]⟩
/-- What the walk of Ask's closure keeps. -/
structure Aks (w0 w : World) (C V : Array Value) (p : Dr.P) (a : Gt.A) (cb ab nb : Nat) (now : Int) (g q : Gt.G) : Prop where
  pl : Pl w cb C p
  ab : Ab w ab V a
  now : w.cell? ⟨nb, 0, none⟩ = some (.int .i64 now)
  gr : Whole w w0.heap.size 67 (gcs g).toArray
  out : Whole w (w0.heap.size + 1) 67 gz.toArray
  ask : Whole w (w0.heap.size + 1 + 1) 67 (gcs q).toArray
  below : Below w0.heap.size w0 w
theorem Aks.on {w0 w w' : World} {C V : Array Value} {p : Dr.P} {a : Gt.A} {cb ab nb : Nat} {now : Int} {g q : Gt.G} (h : Aks w0 w C V p a cb ab nb now g q) (hb : Below w.heap.size w w') : Aks w0 w' C V p a cb ab nb now g q :=
  ⟨h.pl.on hb, h.ab.on hb, (hb.cell (p := ⟨nb, 0, none⟩) (World.block_lt_of_cell? w _ h.now)).trans h.now, h.gr.below hb h.gr.lt, h.out.below hb h.out.lt, h.ask.below hb h.ask.lt, h.below.trans (hb.mono h.below.size)⟩
theorem Aks.boot {w0 w : World} {C V : Array Value} {p : Dr.P} {a : Gt.A} {cb ab nb : Nat} {now : Int} {g q : Gt.G} (h : Aks w0 w C V p a cb ab nb now g q) : w.cell? ⟨ab, 0, none⟩ = some (.int .i64 a.boot) := by
  obtain ⟨ad, n, c, rfl, _⟩ := h.ab.2
  exact h.ab.1.cell 0
/-- What its region's loads read. -/
structure Akh (w0 w : World) (C : Array Value) (boot : Int) (cb ab nb : Nat) (now : Int) (g q : Gt.G) : Prop where
  pl : Whole w cb 24 C
  boot : w.cell? ⟨ab, 0, none⟩ = some (.int .i64 boot)
  now : w.cell? ⟨nb, 0, none⟩ = some (.int .i64 now)
  gr : Whole w w0.heap.size 67 (gcs g).toArray
  ask : Whole w (w0.heap.size + 1 + 1) 67 (gcs q).toArray
theorem Aks.held {w0 w : World} {C V : Array Value} {p : Dr.P} {a : Gt.A} {cb ab nb : Nat} {now : Int} {g q : Gt.G} (h : Aks w0 w C V p a cb ab nb now g q) : Akh w0 w C a.boot cb ab nb now g q := ⟨h.pl.1, h.boot, h.now, h.gr, h.ask⟩
theorem Akh.put {w0 w : World} {C : Array Value} {boot : Int} {cb ab nb : Nat} {now : Int} {g q : Gt.G} (h : Akh w0 w C boot cb ab nb now g q) (h1 : cb < w0.heap.size) (h2 : ab < w0.heap.size) (h3 : nb < w0.heap.size) (X : Array Value) : Akh w0 (w.setRow (w0.heap.size + 1) X) C boot cb ab nb now g q := by
  have hk : ∀ b, b ≠ w0.heap.size + 1 → (w.setRow (w0.heap.size + 1) X).heap[b]? = w.heap[b]? := fun b hb => setRow_other w _ b _ hb
  refine ⟨h.pl.keep (hk _ (by omega)), (World.cell?_of_block (w := w) (hk ab (by omega))).trans h.boot, (World.cell?_of_block (w := w) (hk nb (by omega))).trans h.now, h.gr.keep (hk _ (by omega)), h.ask.keep (hk _ (by omega))⟩
def fask (p : Dr.P) (boot node nonce now : Int) (g : Gt.G) : Gt.G × Bool := (⟨node, nonce, now⟩, decide (gmay p ⟨node, nonce, now⟩ ∧ p.free boot now = true ∧ gleft p g ⟨node, nonce, now⟩))
set_option maxHeartbeats 8000000 in
theorem ask1_any {W : World} (g : Gt.G) {C V : Array Value} {p : Dr.P} {a : Gt.A} {cb ab A B nb : Nat} {node nonce now : Int} (hP : Pl W cb C p) (hV : Ab W ab V a) (hA : W.cell? ⟨A, 0, none⟩ = some (.int .i64 node)) (hB : W.cell? ⟨B, 0, none⟩ = some (.int .i64 nonce)) (hN : W.cell? ⟨nb, 0, none⟩ = some (.int .i64 now)) :
    Calls Try.prog 46 #[.agg (gcs g).toArray, .pointer (some ⟨A, 0, none⟩), .pointer (some ⟨B, 0, none⟩), .pointer (some ⟨nb, 0, none⟩), .pointer (some ⟨cb, 0, none⟩), .pointer (some ⟨ab, 0, none⟩)] W fun e w' => e = .returned (.tuple #[.agg (gcs (fask p a.boot node nonce now g).1).toArray, .bool (fask p a.boot node nonce now g).2]) ∧ Below W.heap.size W w' := by
  have h11 := hP.2.size
  obtain ⟨w1, hw1, hG, hZ, cA, cB, cN, hb1⟩ : ∃ w1, (W.alloc (.cells (gcs g).toArray 67)).alloc (.cells gz.toArray 67) = w1 ∧ Whole w1 W.heap.size 67 (gcs g).toArray ∧ Whole w1 (W.heap.size + 1) 67 gz.toArray ∧ w1.cell? ⟨A, 0, none⟩ = some (.int .i64 node) ∧ w1.cell? ⟨B, 0, none⟩ = some (.int .i64 nonce) ∧ w1.cell? ⟨nb, 0, none⟩ = some (.int .i64 now) ∧ Below W.heap.size W w1 := by
    refine ⟨_, rfl, (Whole.new _ _ _).alloc _, ?_, cell_al (cell_al hA _) _, cell_al (cell_al hB _) _, cell_al (cell_al hN _) _, (below_alloc W _).alloc (by simp) _⟩
    have := Whole.new (W.alloc (.cells (gcs g).toArray 67)) 67 gz.toArray
    rw [size_alloc] at this
    exact this
  have hsz : w1.heap.size = W.heap.size + 1 + 1 := by rw [← hw1, size_alloc, size_alloc]
  have HW := Lib.hid hw1
  have HB := Lib.hid (And.intro hb1 (And.intro hZ (And.intro hG (And.intro (hP.on hb1) (hV.on hb1)))))
  have HSZ := Lib.hid hsz
  have HLT := Lib.hid (And.intro hP.1.lt (And.intro hV.1.lt (World.block_lt_of_cell? W _ hN)))
  obtain ⟨t, ht⟩ : ∃ t, (fask p a.boot node nonce now g).2 = t := ⟨_, rfl⟩
  rw [ht]
  have HT : Hid (t = decide (gmay p ⟨node, nonce, now⟩ ∧ p.free a.boot now = true ∧ gleft p g ⟨node, nonce, now⟩)) := Lib.hid ht.symm
  clear hw1 hb1 hZ hG hA hB hP hV hsz ht hN
  go_enter Try.func46, Try.ntmps46
  go_upto_region 1 with fail
  rw [← gz_is, HW.out]
  go_upto_region 2 with (first
    | ((with_reducible show wpList _ _ _ ((⟨_, Op.build 67 _, _, _, _, _⟩ : Oper) :: _) _ _); refine wpList_built rfl _ rfl [(0, .int .i64 node), (1, .int .i64 nonce), (2, .int .i64 now)] rfl (gcs ⟨node, nonce, now⟩) (built_g3 _ _ _) ?_)
    | ((with_reducible show wpList _ _ _ ((⟨_, Op.store 67 (.tmp 9) _, _, _, _, _⟩ : Oper) :: _) _ _); refine wpList_store_row rfl 67 (.tmp 9) (.tmp 13) rfl w1.heap.size (gcs ⟨node, nonce, now⟩).toArray rfl rfl 67 gz.toArray (Whole.new w1 67 gz.toArray) info_gr rfl (gcs_one _) ?_)
    | fail)
  rw [← gz_is]
  have HS : Hid (Aks W ((w1.alloc (.cells gz.toArray 67)).setRow w1.heap.size (gcs ⟨node, nonce, now⟩).toArray) C V p a cb ab nb now g ⟨node, nonce, now⟩) := Lib.hid (by
    have hb : Below w1.heap.size w1 ((w1.alloc (.cells gz.toArray 67)).setRow w1.heap.size (gcs ⟨node, nonce, now⟩).toArray) := below_row (below_alloc w1 _) (Nat.le_refl _) _
    obtain ⟨h1, h2, h3, h4, h5⟩ := HB.out
    refine ⟨h4.on hb, h5.on hb, (hb.cell (p := ⟨nb, 0, none⟩) (World.block_lt_of_cell? w1 _ cN)).trans cN, h3.below hb h3.lt, h2.below hb h2.lt, ?_, h1.trans (hb.mono h1.size)⟩
    have := (Whole.new w1 67 gz.toArray).row (gcs ⟨node, nonce, now⟩).toArray
    rw [HSZ.out] at this ⊢
    exact this)
  rw [HSZ.out] at HS ⊢
  clear HB HW cA cB cN
  generalize (w1.alloc (.cells gz.toArray 67)).setRow (W.heap.size + 1 + 1) (gcs ⟨node, nonce, now⟩).toArray = w2 at *
  try simp only [Act.put, List.getElem_toArray, List.getElem_cons_zero, List.getElem_cons_succ, List.setIfInBounds_toArray, List.set_cons_zero, List.set_cons_succ]
  have hHeld0 : Aks W w2.drew C V p a cb ab nb now g ⟨node, nonce, now⟩ := HS.out.on (Below.refl _ _).drew
  have HS := Lib.hid hHeld0
  refine wp_region_held_drew (S := fun wq => Akh W wq C a.boot cb ab nb now g ⟨node, nonce, now⟩) (by kernel_rfl) hHeld0.held (fun hHeld => ?_)
  generalize w2.drew = w3 at *
  clear hHeld0
  refine wpAnyH_take (i := 0) (v := .agg (gcs ⟨node, nonce, now⟩).toArray) rfl (by kernel_rfl) (by kernel_rfl) (by kernel_rfl) (fun _ _ _ h => h) (yields_gr (by rfl) _ rfl (W.heap.size + 1 + 1) rfl ⟨node, nonce, now⟩ (fun wq hSw => hSw.ask)) (by assumption) ?_
  try simp only [Act.put, List.getElem_toArray, List.getElem_cons_zero, List.getElem_cons_succ, List.setIfInBounds_toArray, List.set_cons_zero, List.set_cons_succ]
  refine wpAnyH_take (i := 1) (v := .agg C) rfl (by kernel_rfl) (by kernel_rfl) (by kernel_rfl) (fun _ _ _ h => h) (yields_plc (by rfl) _ rfl cb rfl C h11 (fun wq hSw => hSw.pl)) (by assumption) ?_
  try simp only [Act.put, List.getElem_toArray, List.getElem_cons_zero, List.getElem_cons_succ, List.setIfInBounds_toArray, List.set_cons_zero, List.set_cons_succ]
  refine wpAnyH_take (i := 2) (v := .agg (gcs ⟨node, nonce, now⟩).toArray) rfl (by kernel_rfl) (by kernel_rfl) (by kernel_rfl) (fun _ _ _ h => h) (yields_gr (by rfl) _ rfl (W.heap.size + 1 + 1) rfl ⟨node, nonce, now⟩ (fun wq hSw => hSw.ask)) (by assumption) ?_
  try simp only [Act.put, List.getElem_toArray, List.getElem_cons_zero, List.getElem_cons_succ, List.setIfInBounds_toArray, List.set_cons_zero, List.set_cons_succ]
  refine wpAnyH_ready (rs := [3]) (by kernel_rfl) (by simp) (AllReadyH.cons rfl (fun K hK => ?_) AllReadyH.nil)
  try simp only [List.getElem_toArray, List.getElem_cons_zero, List.getElem_cons_succ]
  go_simp
  refine (gmay_any HS.out.pl.2 ⟨node, nonce, now⟩).mono ?_
  rintro e wa ⟨rfl, hb⟩
  obtain ⟨b1, hb1⟩ : ∃ b, decide (gmay p ⟨node, nonce, now⟩) = b := ⟨_, rfl⟩
  rw [hb1]
  have HB1 := Lib.hid hb1
  clear hb1
  refine hK.out _ _ (HS.out.on hb).held (fun hHeld => ?_)
  clear hK K
  try simp only [Act.put, List.getElem_toArray, List.getElem_cons_zero, List.getElem_cons_succ, List.setIfInBounds_toArray, List.set_cons_zero, List.set_cons_succ]
  have HS := Lib.hid (HS.out.on hb)
  clear hb
  cases b1
  case false =>
    have HE : Hid (t = false) := Lib.hid (by rw [HT.out]; exact decide_eq_false fun h => absurd h.1 (of_decide_eq_false HB1.out))
    refine wpAnyH_take (i := 4) (v := .bool false) rfl (by kernel_rfl) (by kernel_rfl) (by kernel_rfl) (fun _ _ _ h => h) (Or.inl ⟨by rfl, (by intro w hSw; (try dsimp only at hSw); go_simp)⟩) (by assumption) ?_
    try simp only [Act.put, List.getElem_toArray, List.getElem_cons_zero, List.getElem_cons_succ, List.setIfInBounds_toArray, List.set_cons_zero, List.set_cons_succ]
    refine wpAnyH_take (i := 5) (v := undef) rfl (by kernel_rfl) (by kernel_rfl) (by kernel_rfl) (fun _ _ _ h => h) (Or.inr ⟨by rfl, rfl⟩) (by assumption) ?_
    try simp only [Act.put, List.getElem_toArray, List.getElem_cons_zero, List.getElem_cons_succ, List.setIfInBounds_toArray, List.set_cons_zero, List.set_cons_succ]
    refine wpAnyH_take (i := 6) (v := undef) rfl (by kernel_rfl) (by kernel_rfl) (by kernel_rfl) (fun _ _ _ h => h) (Or.inr ⟨by rfl, rfl⟩) (by assumption) ?_
    try simp only [Act.put, List.getElem_toArray, List.getElem_cons_zero, List.getElem_cons_succ, List.setIfInBounds_toArray, List.set_cons_zero, List.set_cons_succ]
    refine wpAnyH_take (i := 7) (v := undef) rfl (by kernel_rfl) (by kernel_rfl) (by kernel_rfl) (fun _ _ _ h => h) (Or.inr ⟨by rfl, rfl⟩) (by assumption) ?_
    try simp only [Act.put, List.getElem_toArray, List.getElem_cons_zero, List.getElem_cons_succ, List.setIfInBounds_toArray, List.set_cons_zero, List.set_cons_succ]
    refine wpAnyH_take (i := 8) (v := undef) rfl (by kernel_rfl) (by kernel_rfl) (by kernel_rfl) (fun _ _ _ h => h) (Or.inr ⟨by rfl, rfl⟩) (by assumption) ?_
    try simp only [Act.put, List.getElem_toArray, List.getElem_cons_zero, List.getElem_cons_succ, List.setIfInBounds_toArray, List.set_cons_zero, List.set_cons_succ]
    refine wpAnyH_take (i := 9) (v := undef) rfl (by kernel_rfl) (by kernel_rfl) (by kernel_rfl) (fun _ _ _ h => h) (Or.inr ⟨by rfl, rfl⟩) (by assumption) ?_
    try simp only [Act.put, List.getElem_toArray, List.getElem_cons_zero, List.getElem_cons_succ, List.setIfInBounds_toArray, List.set_cons_zero, List.set_cons_succ]
    refine wpAnyH_take (i := 10) (v := .bool false) rfl (by kernel_rfl) (by kernel_rfl) (by kernel_rfl) (fun _ _ _ h => h) (Or.inl ⟨by rfl, (by intro w hSw; (try dsimp only at hSw); go_simp)⟩) (by assumption) ?_
    try simp only [Act.put, List.getElem_toArray, List.getElem_cons_zero, List.getElem_cons_succ, List.setIfInBounds_toArray, List.set_cons_zero, List.set_cons_succ]
    refine wpAnyH_take (i := 11) (v := .bool false) rfl (by kernel_rfl) (by kernel_rfl) (by kernel_rfl) (fun _ _ _ h => h) (Or.inl ⟨by rfl, (by intro w hSw; (try dsimp only at hSw); go_simp)⟩) (by assumption) ?_
    try simp only [Act.put, List.getElem_toArray, List.getElem_cons_zero, List.getElem_cons_succ, List.setIfInBounds_toArray, List.set_cons_zero, List.set_cons_succ]
    refine wpAnyH_take (i := 12) (v := undef) rfl (by kernel_rfl) (by kernel_rfl) (by kernel_rfl) (fun _ _ _ h => h) (Or.inr ⟨by rfl, rfl⟩) (by assumption) ?_
    try simp only [Act.put, List.getElem_toArray, List.getElem_cons_zero, List.getElem_cons_succ, List.setIfInBounds_toArray, List.set_cons_zero, List.set_cons_succ]
    refine wpAnyH_take (i := 13) (v := undef) rfl (by kernel_rfl) (by kernel_rfl) (by kernel_rfl) (fun _ _ _ h => h) (Or.inr ⟨by rfl, rfl⟩) (by assumption) ?_
    try simp only [Act.put, List.getElem_toArray, List.getElem_cons_zero, List.getElem_cons_succ, List.setIfInBounds_toArray, List.set_cons_zero, List.set_cons_succ]
    refine wpAnyH_take (i := 14) (v := undef) rfl (by kernel_rfl) (by kernel_rfl) (by kernel_rfl) (fun _ _ _ h => h) (Or.inr ⟨by rfl, rfl⟩) (by assumption) ?_
    try simp only [Act.put, List.getElem_toArray, List.getElem_cons_zero, List.getElem_cons_succ, List.setIfInBounds_toArray, List.set_cons_zero, List.set_cons_succ]
    refine wpAnyH_take (i := 15) (v := undef) rfl (by kernel_rfl) (by kernel_rfl) (by kernel_rfl) (fun _ _ _ h => h) (Or.inr ⟨by rfl, rfl⟩) (by assumption) ?_
    try simp only [Act.put, List.getElem_toArray, List.getElem_cons_zero, List.getElem_cons_succ, List.setIfInBounds_toArray, List.set_cons_zero, List.set_cons_succ]
    refine wpAnyH_take (i := 16) (v := .bool false) rfl (by kernel_rfl) (by kernel_rfl) (by kernel_rfl) (fun _ _ _ h => h) (Or.inl ⟨by rfl, (by intro w hSw; (try dsimp only at hSw); go_simp)⟩) (by assumption) ?_
    try simp only [Act.put, List.getElem_toArray, List.getElem_cons_zero, List.getElem_cons_succ, List.setIfInBounds_toArray, List.set_cons_zero, List.set_cons_succ]
    refine wpAnyH_ready (rs := [17]) (by kernel_rfl) (by simp) (AllReadyH.cons rfl (fun K hK => ?_) AllReadyH.nil)
    try simp only [List.getElem_toArray, List.getElem_cons_zero, List.getElem_cons_succ]
    refine if_wanted (by rfl) ?_
    refine wp_store_row _ _ _ rfl (W.heap.size + 1) (gcs ⟨node, nonce, now⟩).toArray rfl rfl 67 _ HS.out.out info_gr rfl (gcs_one _) ?_
    have hX : Whole (wa.setRow (W.heap.size + 1) (gcs ⟨node, nonce, now⟩).toArray) (W.heap.size + 1) 67 (gcs ⟨node, nonce, now⟩).toArray := HS.out.out.row _
    have hbX : Below W.heap.size W (wa.setRow (W.heap.size + 1) (gcs ⟨node, nonce, now⟩).toArray) := below_row HS.out.below (by omega) _
    have hkX := HS.out.held.put HLT.out.1 HLT.out.2.1 HLT.out.2.2 (gcs ⟨node, nonce, now⟩).toArray
    have HX := Lib.hid (And.intro hX hbX)
    clear hX hbX
    refine hK.out _ _ hkX (fun hHeld => ?_)
    clear hK K hkX
    try simp only [Act.put, List.getElem_toArray, List.getElem_cons_zero, List.getElem_cons_succ, List.setIfInBounds_toArray, List.set_cons_zero, List.set_cons_succ]
    generalize wa.setRow (W.heap.size + 1) (gcs ⟨node, nonce, now⟩).toArray = wz at *
    refine wpAnyH_take (i := 18) (v := .bool false) rfl (by kernel_rfl) (by kernel_rfl) (by kernel_rfl) (fun _ _ _ h => h) (Or.inl ⟨by rfl, (by intro w hSw; (try dsimp only at hSw); go_simp)⟩) (by assumption) ?_
    try simp only [Act.put, List.getElem_toArray, List.getElem_cons_zero, List.getElem_cons_succ, List.setIfInBounds_toArray, List.set_cons_zero, List.set_cons_succ]
    refine wpAnyH_done (by kernel_rfl) ?_ _
    go_wp2
    refine bodyPost_ret (results_cell_one rfl _ _ _ _ rfl (run_loadVar_row _ _ _ _ _ (0, 0) _ HX.out.1 Try.underlying67 rfl info_gr)) rfl ?_
    rw [HE.out]
    exact ⟨rfl, HX.out.2⟩
  refine wpAnyH_take (i := 4) (v := .bool true) rfl (by kernel_rfl) (by kernel_rfl) (by kernel_rfl) (fun _ _ _ h => h) (Or.inl ⟨by rfl, (by intro w hSw; (try dsimp only at hSw); go_simp)⟩) (by assumption) ?_
  try simp only [Act.put, List.getElem_toArray, List.getElem_cons_zero, List.getElem_cons_succ, List.setIfInBounds_toArray, List.set_cons_zero, List.set_cons_succ]
  refine wpAnyH_take (i := 5) (v := .agg C) rfl (by kernel_rfl) (by kernel_rfl) (by kernel_rfl) (fun _ _ _ h => h) (yields_plc (by rfl) _ rfl cb rfl C h11 (fun wq hSw => hSw.pl)) (by assumption) ?_
  try simp only [Act.put, List.getElem_toArray, List.getElem_cons_zero, List.getElem_cons_succ, List.setIfInBounds_toArray, List.set_cons_zero, List.set_cons_succ]
  refine wpAnyH_take (i := 6) (v := .pointer (some ⟨ab, 0, none⟩)) rfl (by kernel_rfl) (by kernel_rfl) (by kernel_rfl) (fun _ _ _ h => h) (Or.inl ⟨by rfl, (by intro w hSw; (try dsimp only at hSw); go_simp)⟩) (by assumption) ?_
  try simp only [Act.put, List.getElem_toArray, List.getElem_cons_zero, List.getElem_cons_succ, List.setIfInBounds_toArray, List.set_cons_zero, List.set_cons_succ]
  refine wpAnyH_take (i := 7) (v := .int .i64 a.boot) rfl (by kernel_rfl) (by kernel_rfl) (by kernel_rfl) (fun _ _ _ h => h) (Or.inl ⟨by rfl, (by intro wq hSw; have hq := hSw.boot; clear hSw; go_simp)⟩) (by assumption) ?_
  try simp only [Act.put, List.getElem_toArray, List.getElem_cons_zero, List.getElem_cons_succ, List.setIfInBounds_toArray, List.set_cons_zero, List.set_cons_succ]
  refine wpAnyH_take (i := 8) (v := .int .i64 now) rfl (by kernel_rfl) (by kernel_rfl) (by kernel_rfl) (fun _ _ _ h => h) (Or.inl ⟨by rfl, (by intro wq hSw; have hq := hSw.now; clear hSw; go_simp)⟩) (by assumption) ?_
  try simp only [Act.put, List.getElem_toArray, List.getElem_cons_zero, List.getElem_cons_succ, List.setIfInBounds_toArray, List.set_cons_zero, List.set_cons_succ]
  refine wpAnyH_ready (rs := [9]) (by kernel_rfl) (by simp) (AllReadyH.cons rfl (fun K hK => ?_) AllReadyH.nil)
  try simp only [List.getElem_toArray, List.getElem_cons_zero, List.getElem_cons_succ]
  go_simp
  refine (free_any HS.out.pl.2 a.boot now).mono ?_
  rintro e wb ⟨rfl, hb⟩
  obtain ⟨b2, hb2⟩ : ∃ b, p.free a.boot now = b := ⟨_, rfl⟩
  rw [hb2]
  have HB2 := Lib.hid hb2
  clear hb2
  refine hK.out _ _ (HS.out.on hb).held (fun hHeld => ?_)
  clear hK K
  try simp only [Act.put, List.getElem_toArray, List.getElem_cons_zero, List.getElem_cons_succ, List.setIfInBounds_toArray, List.set_cons_zero, List.set_cons_succ]
  have HS := Lib.hid (HS.out.on hb)
  clear hb
  cases b2
  case false =>
    have HE : Hid (t = false) := Lib.hid (by rw [HT.out]; exact decide_eq_false fun h => by have := h.2.1; rw [HB2.out] at this; cases this)
    refine wpAnyH_take (i := 10) (v := .bool false) rfl (by kernel_rfl) (by kernel_rfl) (by kernel_rfl) (fun _ _ _ h => h) (Or.inl ⟨by rfl, (by intro w hSw; (try dsimp only at hSw); go_simp)⟩) (by assumption) ?_
    try simp only [Act.put, List.getElem_toArray, List.getElem_cons_zero, List.getElem_cons_succ, List.setIfInBounds_toArray, List.set_cons_zero, List.set_cons_succ]
    refine wpAnyH_take (i := 11) (v := .bool false) rfl (by kernel_rfl) (by kernel_rfl) (by kernel_rfl) (fun _ _ _ h => h) (Or.inl ⟨by rfl, (by intro w hSw; (try dsimp only at hSw); go_simp)⟩) (by assumption) ?_
    try simp only [Act.put, List.getElem_toArray, List.getElem_cons_zero, List.getElem_cons_succ, List.setIfInBounds_toArray, List.set_cons_zero, List.set_cons_succ]
    refine wpAnyH_take (i := 12) (v := undef) rfl (by kernel_rfl) (by kernel_rfl) (by kernel_rfl) (fun _ _ _ h => h) (Or.inr ⟨by rfl, rfl⟩) (by assumption) ?_
    try simp only [Act.put, List.getElem_toArray, List.getElem_cons_zero, List.getElem_cons_succ, List.setIfInBounds_toArray, List.set_cons_zero, List.set_cons_succ]
    refine wpAnyH_take (i := 13) (v := undef) rfl (by kernel_rfl) (by kernel_rfl) (by kernel_rfl) (fun _ _ _ h => h) (Or.inr ⟨by rfl, rfl⟩) (by assumption) ?_
    try simp only [Act.put, List.getElem_toArray, List.getElem_cons_zero, List.getElem_cons_succ, List.setIfInBounds_toArray, List.set_cons_zero, List.set_cons_succ]
    refine wpAnyH_take (i := 14) (v := undef) rfl (by kernel_rfl) (by kernel_rfl) (by kernel_rfl) (fun _ _ _ h => h) (Or.inr ⟨by rfl, rfl⟩) (by assumption) ?_
    try simp only [Act.put, List.getElem_toArray, List.getElem_cons_zero, List.getElem_cons_succ, List.setIfInBounds_toArray, List.set_cons_zero, List.set_cons_succ]
    refine wpAnyH_take (i := 15) (v := undef) rfl (by kernel_rfl) (by kernel_rfl) (by kernel_rfl) (fun _ _ _ h => h) (Or.inr ⟨by rfl, rfl⟩) (by assumption) ?_
    try simp only [Act.put, List.getElem_toArray, List.getElem_cons_zero, List.getElem_cons_succ, List.setIfInBounds_toArray, List.set_cons_zero, List.set_cons_succ]
    refine wpAnyH_take (i := 16) (v := .bool false) rfl (by kernel_rfl) (by kernel_rfl) (by kernel_rfl) (fun _ _ _ h => h) (Or.inl ⟨by rfl, (by intro w hSw; (try dsimp only at hSw); go_simp)⟩) (by assumption) ?_
    try simp only [Act.put, List.getElem_toArray, List.getElem_cons_zero, List.getElem_cons_succ, List.setIfInBounds_toArray, List.set_cons_zero, List.set_cons_succ]
    refine wpAnyH_ready (rs := [17]) (by kernel_rfl) (by simp) (AllReadyH.cons rfl (fun K hK => ?_) AllReadyH.nil)
    try simp only [List.getElem_toArray, List.getElem_cons_zero, List.getElem_cons_succ]
    refine if_wanted (by rfl) ?_
    refine wp_store_row _ _ _ rfl (W.heap.size + 1) (gcs ⟨node, nonce, now⟩).toArray rfl rfl 67 _ HS.out.out info_gr rfl (gcs_one _) ?_
    have hX : Whole (wb.setRow (W.heap.size + 1) (gcs ⟨node, nonce, now⟩).toArray) (W.heap.size + 1) 67 (gcs ⟨node, nonce, now⟩).toArray := HS.out.out.row _
    have hbX : Below W.heap.size W (wb.setRow (W.heap.size + 1) (gcs ⟨node, nonce, now⟩).toArray) := below_row HS.out.below (by omega) _
    have hkX := HS.out.held.put HLT.out.1 HLT.out.2.1 HLT.out.2.2 (gcs ⟨node, nonce, now⟩).toArray
    have HX := Lib.hid (And.intro hX hbX)
    clear hX hbX
    refine hK.out _ _ hkX (fun hHeld => ?_)
    clear hK K hkX
    try simp only [Act.put, List.getElem_toArray, List.getElem_cons_zero, List.getElem_cons_succ, List.setIfInBounds_toArray, List.set_cons_zero, List.set_cons_succ]
    generalize wb.setRow (W.heap.size + 1) (gcs ⟨node, nonce, now⟩).toArray = wz at *
    refine wpAnyH_take (i := 18) (v := .bool false) rfl (by kernel_rfl) (by kernel_rfl) (by kernel_rfl) (fun _ _ _ h => h) (Or.inl ⟨by rfl, (by intro w hSw; (try dsimp only at hSw); go_simp)⟩) (by assumption) ?_
    try simp only [Act.put, List.getElem_toArray, List.getElem_cons_zero, List.getElem_cons_succ, List.setIfInBounds_toArray, List.set_cons_zero, List.set_cons_succ]
    refine wpAnyH_done (by kernel_rfl) ?_ _
    go_wp2
    refine bodyPost_ret (results_cell_one rfl _ _ _ _ rfl (run_loadVar_row _ _ _ _ _ (0, 0) _ HX.out.1 Try.underlying67 rfl info_gr)) rfl ?_
    rw [HE.out]
    exact ⟨rfl, HX.out.2⟩
  refine wpAnyH_take (i := 10) (v := .bool true) rfl (by kernel_rfl) (by kernel_rfl) (by kernel_rfl) (fun _ _ _ h => h) (Or.inl ⟨by rfl, (by intro w hSw; (try dsimp only at hSw); go_simp)⟩) (by assumption) ?_
  try simp only [Act.put, List.getElem_toArray, List.getElem_cons_zero, List.getElem_cons_succ, List.setIfInBounds_toArray, List.set_cons_zero, List.set_cons_succ]
  refine wpAnyH_take (i := 11) (v := .bool true) rfl (by kernel_rfl) (by kernel_rfl) (by kernel_rfl) (fun _ _ _ h => h) (Or.inl ⟨by rfl, (by intro w hSw; (try dsimp only at hSw); go_simp)⟩) (by assumption) ?_
  try simp only [Act.put, List.getElem_toArray, List.getElem_cons_zero, List.getElem_cons_succ, List.setIfInBounds_toArray, List.set_cons_zero, List.set_cons_succ]
  refine wpAnyH_take (i := 12) (v := .agg C) rfl (by kernel_rfl) (by kernel_rfl) (by kernel_rfl) (fun _ _ _ h => h) (yields_plc (by rfl) _ rfl cb rfl C h11 (fun wq hSw => hSw.pl)) (by assumption) ?_
  try simp only [Act.put, List.getElem_toArray, List.getElem_cons_zero, List.getElem_cons_succ, List.setIfInBounds_toArray, List.set_cons_zero, List.set_cons_succ]
  refine wpAnyH_take (i := 13) (v := .agg (gcs g).toArray) rfl (by kernel_rfl) (by kernel_rfl) (by kernel_rfl) (fun _ _ _ h => h) (yields_gr (by rfl) _ rfl W.heap.size rfl g (fun wq hSw => hSw.gr)) (by assumption) ?_
  try simp only [Act.put, List.getElem_toArray, List.getElem_cons_zero, List.getElem_cons_succ, List.setIfInBounds_toArray, List.set_cons_zero, List.set_cons_succ]
  refine wpAnyH_take (i := 14) (v := .agg (gcs ⟨node, nonce, now⟩).toArray) rfl (by kernel_rfl) (by kernel_rfl) (by kernel_rfl) (fun _ _ _ h => h) (yields_gr (by rfl) _ rfl (W.heap.size + 1 + 1) rfl ⟨node, nonce, now⟩ (fun wq hSw => hSw.ask)) (by assumption) ?_
  try simp only [Act.put, List.getElem_toArray, List.getElem_cons_zero, List.getElem_cons_succ, List.setIfInBounds_toArray, List.set_cons_zero, List.set_cons_succ]
  refine wpAnyH_ready (rs := [15]) (by kernel_rfl) (by simp) (AllReadyH.cons rfl (fun K hK => ?_) AllReadyH.nil)
  try simp only [List.getElem_toArray, List.getElem_cons_zero, List.getElem_cons_succ]
  go_simp
  refine (gleft_any HS.out.pl.2 g ⟨node, nonce, now⟩).mono ?_
  rintro e wc ⟨rfl, hb⟩
  obtain ⟨b3, hb3⟩ : ∃ b, decide (gleft p g ⟨node, nonce, now⟩) = b := ⟨_, rfl⟩
  rw [hb3]
  have HB3 := Lib.hid hb3
  clear hb3
  refine hK.out _ _ (HS.out.on hb).held (fun hHeld => ?_)
  clear hK K
  try simp only [Act.put, List.getElem_toArray, List.getElem_cons_zero, List.getElem_cons_succ, List.setIfInBounds_toArray, List.set_cons_zero, List.set_cons_succ]
  have HS := Lib.hid (HS.out.on hb)
  clear hb
  have HE : Hid (t = b3) := Lib.hid (by
    rw [HT.out]
    cases b3
    · exact decide_eq_false fun h => absurd h.2.2 (of_decide_eq_false HB3.out)
    · exact decide_eq_true ⟨of_decide_eq_true HB1.out, HB2.out, of_decide_eq_true HB3.out⟩)
  refine wpAnyH_take (i := 16) (v := .bool b3) rfl (by kernel_rfl) (by kernel_rfl) (by kernel_rfl) (fun _ _ _ h => h) (Or.inl ⟨by rfl, (by intro w hSw; (try dsimp only at hSw); go_simp)⟩) (by assumption) ?_
  try simp only [Act.put, List.getElem_toArray, List.getElem_cons_zero, List.getElem_cons_succ, List.setIfInBounds_toArray, List.set_cons_zero, List.set_cons_succ]
  refine wpAnyH_ready (rs := [17]) (by kernel_rfl) (by simp) (AllReadyH.cons rfl (fun K hK => ?_) AllReadyH.nil)
  try simp only [List.getElem_toArray, List.getElem_cons_zero, List.getElem_cons_succ]
  refine if_wanted (by rfl) ?_
  refine wp_store_row _ _ _ rfl (W.heap.size + 1) (gcs ⟨node, nonce, now⟩).toArray rfl rfl 67 _ HS.out.out info_gr rfl (gcs_one _) ?_
  have hX : Whole (wc.setRow (W.heap.size + 1) (gcs ⟨node, nonce, now⟩).toArray) (W.heap.size + 1) 67 (gcs ⟨node, nonce, now⟩).toArray := HS.out.out.row _
  have hbX : Below W.heap.size W (wc.setRow (W.heap.size + 1) (gcs ⟨node, nonce, now⟩).toArray) := below_row HS.out.below (by omega) _
  have hkX := HS.out.held.put HLT.out.1 HLT.out.2.1 HLT.out.2.2 (gcs ⟨node, nonce, now⟩).toArray
  have HX := Lib.hid (And.intro hX hbX)
  clear hX hbX
  refine hK.out _ _ hkX (fun hHeld => ?_)
  clear hK K hkX
  try simp only [Act.put, List.getElem_toArray, List.getElem_cons_zero, List.getElem_cons_succ, List.setIfInBounds_toArray, List.set_cons_zero, List.set_cons_succ]
  generalize wc.setRow (W.heap.size + 1) (gcs ⟨node, nonce, now⟩).toArray = wz at *
  refine wpAnyH_take (i := 18) (v := .bool b3) rfl (by kernel_rfl) (by kernel_rfl) (by kernel_rfl) (fun _ _ _ h => h) (Or.inl ⟨by rfl, (by intro w hSw; (try dsimp only at hSw); go_simp)⟩) (by assumption) ?_
  try simp only [Act.put, List.getElem_toArray, List.getElem_cons_zero, List.getElem_cons_succ, List.setIfInBounds_toArray, List.set_cons_zero, List.set_cons_succ]
  refine wpAnyH_done (by kernel_rfl) ?_ _
  go_wp2
  refine bodyPost_ret (results_cell_one rfl _ _ _ _ rfl (run_loadVar_row _ _ _ _ _ (0, 0) _ HX.out.1 Try.underlying67 rfl info_gr)) rfl ?_
  rw [HE.out]
  exact ⟨rfl, HX.out.2⟩
end Go.Proofs.Ytegdopbiiddamaa
