/-
  The package's New, Ask, Free and Holder: what is asked of them (Grs).
-/
import Derived.Test.YtalfcaepobbdeaaMx
import Derived.Shelf.Abstract
namespace Go.Proofs.Ytalfcaepobbdeaa.Gt
theorem chg_ask (p : Dr.P) (a : A) (s node nonce now : Int) : chg p a s (fask p a.boot node nonce now) = ask p a s node nonce now := by
  unfold chg ask
  have e : (may p a s ∧ (fask p a.boot node nonce now (at_ a s)).2 = true) ↔ grants p a s node nonce now := by
    unfold fask grants gmay gleft
    simp only [decide_eq_true_eq]
    constructor
    · rintro ⟨h1, ⟨h2, h3, h4, h5⟩, h6, h7⟩
      exact ⟨h1, h2, h3, h4, h5, h6, h7⟩
    · rintro ⟨h1, h2, h3, h4, h5, h6, h7⟩
      exact ⟨h1, ⟨h2, h3, h4, h5⟩, h6, h7⟩
  by_cases h : grants p a s node nonce now
  · rw [if_pos h, if_pos (e.2 h)]
    rfl
  · rw [if_neg h, if_neg (fun q => h (e.1 q))]
theorem chg_free (p : Dr.P) (a : A) (s node nonce : Int) : (chg p a s (ffree node nonce)).1 = free p a s node nonce := by
  unfold chg free
  by_cases h : may p a s ∧ (Gt.at_ a s).node = node ∧ (Gt.at_ a s).nonce = nonce
  · rw [if_pos h, if_pos ⟨h.1, decide_eq_true h.2⟩]
    rfl
  · rw [if_neg h, if_neg (fun q => h ⟨q.1, of_decide_eq_true q.2⟩)]
end Go.Proofs.Ytalfcaepobbdeaa.Gt
namespace Go.Proofs.Ytalfcaepobbdeaa
open Go.RowKit Go.Great Go.Shelf
set_option linter.unusedVariables false
set_option linter.unusedSimpArgs false
set_option maxRecDepth 20000
theorem eg_ask : ∀ args w, (callFunc 20 args).run Try.prog w = .ok (.enter 20 args) w := enters_of Try.func20 (by kernel_rfl) rfl
theorem eg_free : ∀ args w, (callFunc 27 args).run Try.prog w = .ok (.enter 27 args) w := enters_of Try.func27 (by kernel_rfl) rfl
theorem new_cell {w : World} (t : TypeId) (v : Value) : (w.alloc (.cells #[v] t)).cell? ⟨w.heap.size, 0, none⟩ = some v := (Whole.new w t #[v]).cell 0
set_option maxHeartbeats 4000000 in
theorem ask_any {w : World} {S T : Nat → Prop} {C V : Array Value} {p : Dr.P} {a : Gt.A} (h : Cc w S C p) (ha : AccS w T V a) (s node nonce now : Int) (h2 : In64 node) (h3 : In64 nonce) (h4 : In64 now) :
    Calls Try.prog 10 #[.agg C, .agg V, .int .i64 s, .int .i64 node, .int .i64 nonce, .int .i64 now] w (AccBS w (fun b => T b ∨ w.heap.size ≤ b) (Gt.ask p a s node nonce now).1 (Gt.ask p a s node nonce now).2) := by
  have h11 := h.size
  have hmf : ∀ (fn : Fn) (first cap : Array Value) (w : World), (Instr.makeFunc fn first cap).run Try.prog w = .ok (.func fn first cap) w := fun _ _ _ _ => rfl
  obtain ⟨w1, hw1, hP, hA, hb1⟩ := boxes_pa h ha.acc
  have hs1 : w1.heap.size = w.heap.size + 1 + 1 := by rw [← hw1, size_alloc, size_alloc]
  obtain ⟨w2, hw2, cN, cO, cT, hZ, hb2, hs2⟩ : ∃ w2, (((w1.alloc (.cells #[.int .i64 node] 3)).alloc (.cells #[.int .i64 nonce] 2)).alloc (.cells #[.int .i64 now] 2)).alloc (.cells az 30) = w2 ∧ w2.cell? ⟨w.heap.size + 1 + 1, 0, none⟩ = some (.int .i64 node) ∧ w2.cell? ⟨w.heap.size + 1 + 1 + 1, 0, none⟩ = some (.int .i64 nonce) ∧ w2.cell? ⟨w.heap.size + 1 + 1 + 1 + 1, 0, none⟩ = some (.int .i64 now) ∧ Whole w2 (w.heap.size + 1 + 1 + 1 + 1 + 1) 30 az ∧ Below w1.heap.size w1 w2 ∧ w2.heap.size = w.heap.size + 1 + 1 + 1 + 1 + 1 + 1 := by
    refine ⟨_, rfl, ?_, ?_, ?_, ?_, (((below_alloc w1 _).alloc (by simp) _).alloc (by simp; omega) _).alloc (by simp; omega) _, by simp [hs1]⟩
    · have := cell_al (cell_al (cell_al (new_cell (w := w1) 3 (.int .i64 node)) (.cells #[.int .i64 nonce] 2)) (.cells #[.int .i64 now] 2)) (.cells az 30)
      rw [hs1] at this
      exact this
    · have := cell_al (cell_al (new_cell (w := w1.alloc (.cells #[.int .i64 node] 3)) 2 (.int .i64 nonce)) (.cells #[.int .i64 now] 2)) (.cells az 30)
      rw [size_alloc, hs1] at this
      exact this
    · have := cell_al (new_cell (w := (w1.alloc (.cells #[.int .i64 node] 3)).alloc (.cells #[.int .i64 nonce] 2)) 2 (.int .i64 now)) (.cells az 30)
      rw [size_alloc, size_alloc, hs1] at this
      exact this
    · have := Whole.new (((w1.alloc (.cells #[.int .i64 node] 3)).alloc (.cells #[.int .i64 nonce] 2)).alloc (.cells #[.int .i64 now] 2)) 30 az
      rw [size_alloc, size_alloc, size_alloc, hs1] at this
      exact this
  have hP2 := hP.on hb2
  have hA2 := hA.on hb2
  have hc : Chg 20 #[.pointer (some ⟨w.heap.size + 1 + 1, 0, none⟩), .pointer (some ⟨w.heap.size + 1 + 1 + 1, 0, none⟩), .pointer (some ⟨w.heap.size + 1 + 1 + 1 + 1, 0, none⟩), .pointer (some ⟨w.heap.size, 0, none⟩), .pointer (some ⟨w.heap.size + 1, 0, none⟩)] (fask p a.boot node nonce now) w2 := by
    intro W g hW hg
    exact ask1_any g (hP2.on hW) (hA2.on hW) ((hW.cell (p := ⟨w.heap.size + 1 + 1, 0, none⟩) (World.block_lt_of_cell? w2 _ cN)).trans cN) ((hW.cell (p := ⟨w.heap.size + 1 + 1 + 1, 0, none⟩) (World.block_lt_of_cell? w2 _ cO)).trans cO) ((hW.cell (p := ⟨w.heap.size + 1 + 1 + 1 + 1, 0, none⟩) (World.block_lt_of_cell? w2 _ cT)).trans cT)
  have HC := Lib.hid (changed_any eg_ask hc (fun g hg => ⟨h2, h3, h4⟩) hP2.2 hA2.2 s)
  rw [Gt.chg_ask] at HC
  have HW := Lib.hid (And.intro hw1 hw2)
  have HB := Lib.hid (And.intro (hb1.trans (hb2.mono hb1.size)) (And.intro hZ (And.intro hP2 hA2)))
  have HSZ := Lib.hid (And.intro hs1 hs2)
  obtain ⟨r, hr⟩ : ∃ r, Gt.ask p a s node nonce now = r := ⟨_, rfl⟩
  rw [hr] at HC ⊢
  obtain ⟨ad, n, c, rfl, hrow, hnc, hbt, hn⟩ := ha
  clear h hw1 hw2 hP hA hP2 hA2 hb1 hb2 hZ hc cN cO cT hr hrow h2 h3 h4
  go_enter Try.func10, Try.ntmps10
  go_upto_region 1 with fail
  rw [← az_is, HW.out.1]
  rw [HW.out.2]
  go_wp2_with (first | ((with_reducible show wpList _ _ _ ((⟨some 14, Op.load 24 (.tmp 6), _, _, _, _⟩ : Oper) :: _) _ _); refine wpList_load_rowG (by rfl) _ (.tmp 6) rfl w.heap.size rfl 24 C (0, 0) _ HB.out.2.2.1.1 Try.underlying24 rfl (by rw [h11]; exact info11) ?_) | ((with_reducible show wpList _ _ _ ((⟨some 15, Op.load 30 (.tmp 7), _, _, _, _⟩ : Oper) :: _) _ _); refine wpList_load_rowG (by rfl) _ (.tmp 7) rfl (w.heap.size + 1) rfl 30 (acs a.boot ad n c) (0, 0) _ HB.out.2.2.2.1 Try.underlying30 rfl info_acc ?_) | fail)
  refine HC.out.mono ?_
  rintro e w3 ⟨V3, rfl, ha3, hb3⟩
  have h6 := ha3.acc.size
  have h6o := ha3.acc.one
  have HZ := Lib.hid (HB.out.2.1.below hb3 HB.out.2.1.lt)
  have HA := Lib.hid (And.intro ha3 (HB.out.1.trans (hb3.mono HB.out.1.size)))
  clear ha3 hb3 HC
  go_wp2_with (first | ((with_reducible show wpList _ _ _ ((⟨_, Op.store 30 (.tmp 12) _, _, _, _, _⟩ : Oper) :: _) _ _); refine wpList_store_row rfl 30 (.tmp 12) (.tmp 19) rfl (w.heap.size + 1 + 1 + 1 + 1 + 1) V3 rfl rfl 30 _ HZ.out (by rw [h6]; exact info_acc) (by rw [h6]; rfl) h6o ?_) | fail)
  refine bodyPost_ret (results_cell_one rfl _ _ _ _ rfl (run_loadVar_row _ _ _ _ _ (0, 0) _ (HZ.out.row V3) Try.underlying30 rfl (by rw [h6]; exact info_acc))) rfl ?_
  exact ⟨_, rfl, (HA.out.1.keep (by simp [World.setRow]) (fun b _ hb => setRow_other _ _ b _ (by have := HSZ.out.2; omega))).weak (fun b _ hb => Or.inr (by have := HSZ.out.2; omega)), below_row HA.out.2 (by omega) _⟩
set_option maxHeartbeats 4000000 in
theorem free_g_any {w : World} {S T : Nat → Prop} {C V : Array Value} {p : Dr.P} {a : Gt.A} (h : Cc w S C p) (ha : AccS w T V a) (s node nonce : Int) :
    Calls Try.prog 12 #[.agg C, .agg V, .int .i64 s, .int .i64 node, .int .i64 nonce] w (AccQS w (fun b => T b ∨ w.heap.size ≤ b) (Gt.free p a s node nonce)) := by
  have h11 := h.size
  have hmf : ∀ (fn : Fn) (first cap : Array Value) (w : World), (Instr.makeFunc fn first cap).run Try.prog w = .ok (.func fn first cap) w := fun _ _ _ _ => rfl
  obtain ⟨w1, hw1, hP, hA, hb1⟩ := boxes_pa h ha.acc
  have hs1 : w1.heap.size = w.heap.size + 1 + 1 := by rw [← hw1, size_alloc, size_alloc]
  obtain ⟨w2, hw2, cN, cO, hZ, hb2, hs2⟩ : ∃ w2, ((w1.alloc (.cells #[.int .i64 node] 3)).alloc (.cells #[.int .i64 nonce] 2)).alloc (.cells az 30) = w2 ∧ w2.cell? ⟨w.heap.size + 1 + 1, 0, none⟩ = some (.int .i64 node) ∧ w2.cell? ⟨w.heap.size + 1 + 1 + 1, 0, none⟩ = some (.int .i64 nonce) ∧ Whole w2 (w.heap.size + 1 + 1 + 1 + 1) 30 az ∧ Below w1.heap.size w1 w2 ∧ w2.heap.size = w.heap.size + 1 + 1 + 1 + 1 + 1 := by
    refine ⟨_, rfl, ?_, ?_, ?_, ((below_alloc w1 _).alloc (by simp) _).alloc (by simp; omega) _, by simp [hs1]⟩
    · have := cell_al (cell_al (new_cell (w := w1) 3 (.int .i64 node)) (.cells #[.int .i64 nonce] 2)) (.cells az 30)
      rw [hs1] at this
      exact this
    · have := cell_al (new_cell (w := w1.alloc (.cells #[.int .i64 node] 3)) 2 (.int .i64 nonce)) (.cells az 30)
      rw [size_alloc, hs1] at this
      exact this
    · have := Whole.new ((w1.alloc (.cells #[.int .i64 node] 3)).alloc (.cells #[.int .i64 nonce] 2)) 30 az
      rw [size_alloc, size_alloc, hs1] at this
      exact this
  have hP2 := hP.on hb2
  have hA2 := hA.on hb2
  have hc : Chg 27 #[.pointer (some ⟨w.heap.size + 1 + 1, 0, none⟩), .pointer (some ⟨w.heap.size + 1 + 1 + 1, 0, none⟩)] (ffree node nonce) w2 := by
    intro W g hW hg
    exact free1_any g ((hW.cell (p := ⟨w.heap.size + 1 + 1, 0, none⟩) (World.block_lt_of_cell? w2 _ cN)).trans cN) ((hW.cell (p := ⟨w.heap.size + 1 + 1 + 1, 0, none⟩) (World.block_lt_of_cell? w2 _ cO)).trans cO)
  have HC := Lib.hid (changed_any eg_free hc (fun g hg => show Gin Gt.none from ⟨⟨by decide, by decide⟩, ⟨by decide, by decide⟩, ⟨by decide, by decide⟩⟩) hP2.2 hA2.2 s)
  rw [Gt.chg_free] at HC
  have HW := Lib.hid (And.intro hw1 hw2)
  have HB := Lib.hid (And.intro (hb1.trans (hb2.mono hb1.size)) (And.intro hZ (And.intro hP2 hA2)))
  have HSZ := Lib.hid (And.intro hs1 hs2)
  obtain ⟨r, hr⟩ : ∃ r, Gt.free p a s node nonce = r := ⟨_, rfl⟩
  rw [hr] at HC ⊢
  obtain ⟨t, ht⟩ : ∃ t, (Gt.chg p a s (ffree node nonce)).2 = t := ⟨_, rfl⟩
  rw [ht] at HC
  obtain ⟨ad, n, c, rfl, hrow, hnc, hbt, hn⟩ := ha
  clear h hw1 hw2 hP hA hP2 hA2 hb1 hb2 hZ hc cN cO hr hrow ht
  go_enter Try.func12, Try.ntmps12
  go_upto_region 1 with fail
  rw [← az_is, HW.out.1]
  rw [HW.out.2]
  go_wp2_with (first | ((with_reducible show wpList _ _ _ ((⟨some 14, Op.load 24 (.tmp 5), _, _, _, _⟩ : Oper) :: _) _ _); refine wpList_load_rowG (by rfl) _ (.tmp 5) rfl w.heap.size rfl 24 C (0, 0) _ HB.out.2.2.1.1 Try.underlying24 rfl (by rw [h11]; exact info11) ?_) | ((with_reducible show wpList _ _ _ ((⟨some 15, Op.load 30 (.tmp 6), _, _, _, _⟩ : Oper) :: _) _ _); refine wpList_load_rowG (by rfl) _ (.tmp 6) rfl (w.heap.size + 1) rfl 30 (acs a.boot ad n c) (0, 0) _ HB.out.2.2.2.1 Try.underlying30 rfl info_acc ?_) | fail)
  refine HC.out.mono ?_
  rintro e w3 ⟨V3, rfl, ha3, hb3⟩
  have h6 := ha3.acc.size
  have h6o := ha3.acc.one
  have HZ := Lib.hid (HB.out.2.1.below hb3 HB.out.2.1.lt)
  have HA := Lib.hid (And.intro ha3 (And.intro (HB.out.1.trans (hb3.mono HB.out.1.size)) hb3.size))
  clear ha3 hb3 HC
  go_upto_region 2 with (first | ((with_reducible show wpList _ _ _ ((⟨_, Op.store 30 (.tmp 11) _, _, _, _, _⟩ : Oper) :: _) _ _); refine wpList_store_row rfl 30 (.tmp 11) (.tmp 19) rfl w3.heap.size V3 rfl rfl 30 _ (Whole.new w3 30 az) (by rw [h6]; exact info_acc) (by rw [h6]; rfl) h6o ?_) | fail)
  rw [← az_is]
  have hb4 : Below w3.heap.size w3 ((w3.alloc (.cells az 30)).setRow w3.heap.size V3) := below_row (below_alloc w3 _) (Nat.le_refl _) _
  have HX := Lib.hid ((Whole.new w3 30 az).row V3)
  have HZ := Lib.hid (HZ.out.below hb4 HZ.out.lt)
  have HA4 := Lib.hid (And.intro (HA.out.1.on hb4) (HA.out.2.1.trans (hb4.mono HA.out.2.1.size)))
  clear hb4 HA
  generalize (w3.alloc (.cells az 30)).setRow w3.heap.size V3 = w4 at *
  generalize w3.heap.size = g3 at *
  go_wp2_with (first | ((with_reducible show wpList _ _ _ ((⟨_, Op.load 30 (.tmp 11), _, _, _, _⟩ : Oper) :: _) _ _); refine wpList_load_rowG (by rfl) _ (.tmp 11) rfl g3 rfl 30 V3 (0, 0) _ HX.out Try.underlying30 rfl (by rw [h6]; exact info_acc) ?_) | ((with_reducible show wpList _ _ _ ((⟨_, Op.store 30 (.tmp 10) _, _, _, _, _⟩ : Oper) :: _) _ _); refine wpList_store_row rfl 30 (.tmp 10) (.tmp 21) rfl (w.heap.size + 1 + 1 + 1 + 1) V3 rfl rfl 30 _ HZ.out (by rw [h6]; exact info_acc) (by rw [h6]; rfl) h6o ?_) | fail)
  refine bodyPost_ret (results_one_cell rfl _ _ _ _ rfl (run_loadVar_row _ _ _ _ _ (0, 0) _ (HZ.out.row V3) Try.underlying30 rfl (by rw [h6]; exact info_acc))) rfl ?_
  exact ⟨_, rfl, (HA4.out.1.keep (by simp [World.setRow]) (fun b _ hb => setRow_other _ _ b _ (by have := HSZ.out.2; omega))).weak (fun b _ hb => Or.inr (by have := HSZ.out.2; omega)), below_row HA4.out.2 (by omega) _⟩
/-- What Holder's region reads. -/
structure Hol (w0 w : World) (C V : Array Value) (p : Dr.P) (a : Gt.A) : Prop where
  pl : Pl w w0.heap.size C p
  ab : Ab w (w0.heap.size + 1) V a
  below : Below w0.heap.size w0 w
theorem Hol.on {w0 w w' : World} {C V : Array Value} {p : Dr.P} {a : Gt.A} (h : Hol w0 w C V p a) (hb : Below w.heap.size w w') : Hol w0 w' C V p a := ⟨h.pl.on hb, h.ab.on hb, h.below.trans (hb.mono h.below.size)⟩
theorem Hol.slice {w0 w : World} {boot : Int} {C : Array Value} {ad : Option Addr} {n c : Nat} {p : Dr.P} {a : Gt.A} (h : Hol w0 w C (acs boot ad n c) p a) : w.cell? ⟨w0.heap.size + 1, 1, none⟩ = some (.slice ad n c) := h.ab.1.cell 1
theorem Hol.at3 {w0 w : World} {boot : Int} {C : Array Value} {b off n c k : Nat} {p : Dr.P} {a : Gt.A} (h : Hol w0 w C (acs boot (some ⟨b, off, none⟩) n c) p a) (hk : k < n) : w.rangeAt b (off + k * 3) (gcs (a.gs.getD k Gt.none)) := by
  obtain ⟨b', off', e, _, _, hr⟩ := h.ab.2.row.at_ hk
  injection e with e
  injection e with e1 e2
  subst e1 e2
  exact hr
theorem Hol.since {w0 w : World} {boot : Int} {C : Array Value} {b off n c k : Nat} {p : Dr.P} {a : Gt.A} {g : Gt.G} (h : Hol w0 w C (acs boot (some ⟨b, off, none⟩) n c) p a) (hk : k < n) (hg : a.gs.getD k Gt.none = g) : w.cell? ⟨b, off + k * 3 + 2, none⟩ = some (.int .i64 g.since) := by
  have := h.at3 hk
  rw [hg] at this
  exact this 2 _ rfl
theorem Hol.node {w0 w : World} {boot : Int} {C : Array Value} {b off n c k : Nat} {p : Dr.P} {a : Gt.A} {g : Gt.G} (h : Hol w0 w C (acs boot (some ⟨b, off, none⟩) n c) p a) (hk : k < n) (hg : a.gs.getD k Gt.none = g) : w.cell? ⟨b, off + k * 3, none⟩ = some (.int .i64 g.node) := by
  have := h.at3 hk
  rw [hg] at this
  exact this 0 _ rfl
theorem yields_ac {ops : Array Oper} {S : World → Prop} {op : Oper} {a : Act} (hw : Region.wanted op (yielded ops a.tmps) = true) (x : Operand) (ho : op.op = .load 30 x)
    (b : Nat) (hx : a.eval x = .pointer (some ⟨b, 0, none⟩)) (V : Array Value) (hV : V.size = 2) (hS : ∀ w, S w → Whole w b 30 V) : YieldsIf Try.prog ops S op (.agg V) a :=
  .inl ⟨hw, fun w hw' => by
    unfold execOp
    simp only [ho, hx, Instr.loadAt, Instr.sureAddr, Sem.run_bind, Sem.run_pure, Result.andThen_ok, run_loadVar_row w b 30 30 V (0, 0) _ (hS w hw') Try.underlying30 rfl (by rw [hV]; exact info_acc)]⟩
set_option maxHeartbeats 8000000 in
theorem holder_any {w : World} {S : Nat → Prop} {C V : Array Value} {p : Dr.P} {a : Gt.A} (h : Cc w S C p) (ha : Acc w V a) (s now : Int) :
    Calls Try.prog 16 #[.agg C, .agg V, .int .i64 s, .int .i64 now] w fun e w' => e = .returned (.int .i64 (Gt.holder p a s now)) ∧ Below w.heap.size w w' := by
  have h11 := h.size
  obtain ⟨w1, hw1, hP, hA, hb1⟩ := boxes_pa h ha
  have HW := Lib.hid hw1
  have HS : Hid (Hol w w1 C V p a) := Lib.hid ⟨hP, hA, hb1⟩
  obtain ⟨ad, n, c, rfl, hrow, hnc, hbt, hn⟩ := ha
  have HL := Lib.hid hrow.1
  obtain ⟨r, hr⟩ : ∃ r, Gt.holder p a s now = r := ⟨_, rfl⟩
  rw [hr]
  have HR := Lib.hid hr
  clear h hw1 hP hA hb1 hrow hbt hr
  go_enter Try.func16, Try.ntmps16
  go_upto_region 1 with fail
  rw [HW.out]
  have hHeld0 := HS.out.on (Below.refl _ _).drew
  have HS := Lib.hid hHeld0
  refine wp_region_held_drew (S := fun wq => Hol w wq C (acs a.boot ad n c) p a) (by kernel_rfl) hHeld0 (fun hHeld => ?_)
  generalize w1.drew = w2 at *
  clear hHeld0 HW
  refine wpAnyH_take (i := 0) (v := .agg C) rfl (by kernel_rfl) (by kernel_rfl) (by kernel_rfl) (fun _ _ _ h => h) (yields_plc (by rfl) _ rfl w.heap.size rfl C h11 (fun wq hSw => hSw.pl.1)) (by assumption) ?_
  try simp only [Act.put, List.getElem_toArray, List.getElem_cons_zero, List.getElem_cons_succ, List.setIfInBounds_toArray, List.set_cons_zero, List.set_cons_succ]
  refine wpAnyH_take (i := 1) (v := .agg (acs a.boot ad n c)) rfl (by kernel_rfl) (by kernel_rfl) (by kernel_rfl) (fun _ _ _ h => h) (yields_ac (by rfl) _ rfl (w.heap.size + 1) rfl (acs a.boot ad n c) rfl (fun wq hSw => hSw.ab.1)) (by assumption) ?_
  try simp only [Act.put, List.getElem_toArray, List.getElem_cons_zero, List.getElem_cons_succ, List.setIfInBounds_toArray, List.set_cons_zero, List.set_cons_succ]
  refine wpAnyH_take (i := 2) (v := .int .i64 s) rfl (by kernel_rfl) (by kernel_rfl) (by kernel_rfl) (fun _ _ _ h => h) (Or.inl ⟨by rfl, (by intro w hSw; (try dsimp only at hSw); go_simp)⟩) (by assumption) ?_
  try simp only [Act.put, List.getElem_toArray, List.getElem_cons_zero, List.getElem_cons_succ, List.setIfInBounds_toArray, List.set_cons_zero, List.set_cons_succ]
  refine wpAnyH_ready (rs := [3]) (by kernel_rfl) (by simp) (AllReadyH.cons rfl (fun K hK => ?_) AllReadyH.nil)
  try simp only [List.getElem_toArray, List.getElem_cons_zero, List.getElem_cons_succ]
  go_simp
  refine (gslot_any HS.out.pl.2 HS.out.ab.2 s).mono ?_
  rintro e wa ⟨rfl, hb⟩
  refine hK.out _ _ (HS.out.on hb) (fun hHeld => ?_)
  clear hK K
  try simp only [Act.put, List.getElem_toArray, List.getElem_cons_zero, List.getElem_cons_succ, List.setIfInBounds_toArray, List.set_cons_zero, List.set_cons_succ]
  have HS := Lib.hid (HS.out.on hb)
  clear hb
  by_cases hm : Gt.may p a s
  case neg =>
    rw [decide_eq_false hm]
    have HE : Hid (r = -1) := Lib.hid (by rw [← HR.out]; exact if_neg fun h => hm h.1)
    refine wpAnyH_take (i := 4) (v := .bool true) rfl (by kernel_rfl) (by kernel_rfl) (by kernel_rfl) (fun _ _ _ h => h) (Or.inl ⟨by rfl, (by intro w hSw; (try dsimp only at hSw); go_simp)⟩) (by assumption) ?_
    try simp only [Act.put, List.getElem_toArray, List.getElem_cons_zero, List.getElem_cons_succ, List.setIfInBounds_toArray, List.set_cons_zero, List.set_cons_succ]
    refine wpAnyH_take (i := 5) (v := .bool true) rfl (by kernel_rfl) (by kernel_rfl) (by kernel_rfl) (fun _ _ _ h => h) (Or.inl ⟨by rfl, (by intro w hSw; (try dsimp only at hSw); go_simp)⟩) (by assumption) ?_
    try simp only [Act.put, List.getElem_toArray, List.getElem_cons_zero, List.getElem_cons_succ, List.setIfInBounds_toArray, List.set_cons_zero, List.set_cons_succ]
    refine wpAnyH_take (i := 6) (v := undef) rfl (by kernel_rfl) (by kernel_rfl) (by kernel_rfl) (fun _ _ _ h => h) (Or.inr ⟨by rfl, rfl⟩) (by assumption) ?_
    try simp only [Act.put, List.getElem_toArray, List.getElem_cons_zero, List.getElem_cons_succ, List.setIfInBounds_toArray, List.set_cons_zero, List.set_cons_succ]
    refine wpAnyH_take (i := 7) (v := undef) rfl (by kernel_rfl) (by kernel_rfl) (by kernel_rfl) (fun _ _ _ h => h) (Or.inr ⟨by rfl, rfl⟩) (by assumption) ?_
    try simp only [Act.put, List.getElem_toArray, List.getElem_cons_zero, List.getElem_cons_succ, List.setIfInBounds_toArray, List.set_cons_zero, List.set_cons_succ]
    refine wpAnyH_take (i := 8) (v := undef) rfl (by kernel_rfl) (by kernel_rfl) (by kernel_rfl) (fun _ _ _ h => h) (Or.inr ⟨by rfl, rfl⟩) (by assumption) ?_
    try simp only [Act.put, List.getElem_toArray, List.getElem_cons_zero, List.getElem_cons_succ, List.setIfInBounds_toArray, List.set_cons_zero, List.set_cons_succ]
    refine wpAnyH_take (i := 9) (v := undef) rfl (by kernel_rfl) (by kernel_rfl) (by kernel_rfl) (fun _ _ _ h => h) (Or.inr ⟨by rfl, rfl⟩) (by assumption) ?_
    try simp only [Act.put, List.getElem_toArray, List.getElem_cons_zero, List.getElem_cons_succ, List.setIfInBounds_toArray, List.set_cons_zero, List.set_cons_succ]
    refine wpAnyH_take (i := 10) (v := undef) rfl (by kernel_rfl) (by kernel_rfl) (by kernel_rfl) (fun _ _ _ h => h) (Or.inr ⟨by rfl, rfl⟩) (by assumption) ?_
    try simp only [Act.put, List.getElem_toArray, List.getElem_cons_zero, List.getElem_cons_succ, List.setIfInBounds_toArray, List.set_cons_zero, List.set_cons_succ]
    refine wpAnyH_take (i := 11) (v := undef) rfl (by kernel_rfl) (by kernel_rfl) (by kernel_rfl) (fun _ _ _ h => h) (Or.inr ⟨by rfl, rfl⟩) (by assumption) ?_
    try simp only [Act.put, List.getElem_toArray, List.getElem_cons_zero, List.getElem_cons_succ, List.setIfInBounds_toArray, List.set_cons_zero, List.set_cons_succ]
    refine wpAnyH_take (i := 12) (v := undef) rfl (by kernel_rfl) (by kernel_rfl) (by kernel_rfl) (fun _ _ _ h => h) (Or.inr ⟨by rfl, rfl⟩) (by assumption) ?_
    try simp only [Act.put, List.getElem_toArray, List.getElem_cons_zero, List.getElem_cons_succ, List.setIfInBounds_toArray, List.set_cons_zero, List.set_cons_succ]
    refine wpAnyH_take (i := 13) (v := undef) rfl (by kernel_rfl) (by kernel_rfl) (by kernel_rfl) (fun _ _ _ h => h) (Or.inr ⟨by rfl, rfl⟩) (by assumption) ?_
    try simp only [Act.put, List.getElem_toArray, List.getElem_cons_zero, List.getElem_cons_succ, List.setIfInBounds_toArray, List.set_cons_zero, List.set_cons_succ]
    refine wpAnyH_take (i := 14) (v := undef) rfl (by kernel_rfl) (by kernel_rfl) (by kernel_rfl) (fun _ _ _ h => h) (Or.inr ⟨by rfl, rfl⟩) (by assumption) ?_
    try simp only [Act.put, List.getElem_toArray, List.getElem_cons_zero, List.getElem_cons_succ, List.setIfInBounds_toArray, List.set_cons_zero, List.set_cons_succ]
    refine wpAnyH_take (i := 15) (v := .bool true) rfl (by kernel_rfl) (by kernel_rfl) (by kernel_rfl) (fun _ _ _ h => h) (Or.inl ⟨by rfl, (by intro w hSw; (try dsimp only at hSw); go_simp)⟩) (by assumption) ?_
    try simp only [Act.put, List.getElem_toArray, List.getElem_cons_zero, List.getElem_cons_succ, List.setIfInBounds_toArray, List.set_cons_zero, List.set_cons_succ]
    refine wpAnyH_done (by kernel_rfl) ?_ _
    go_wp2
    go_ret
    exact ⟨ret_i64 HE.out.symm, HS.out.below⟩
  rw [decide_eq_true hm]
  obtain ⟨k, hk⟩ : ∃ k : Nat, s = (k : Int) := ⟨s.toNat, by have := hm.2.2.1; omega⟩
  have hkn : k < n := by have h1 := hm.2.1; have h2 := hm.2.2.2; rw [HL.out] at h1; omega
  have HM := Lib.hid hm
  subst hk
  clear hm
  obtain ⟨b, off, rfl, _⟩ := HS.out.ab.2.row.at_ hkn
  obtain ⟨g, hg⟩ : ∃ g, a.gs.getD k Gt.none = g := ⟨_, rfl⟩
  have HG := Lib.hid hg
  have HGA : Hid (Gt.at_ a (k : Int) = g) := Lib.hid (by rw [gt_at rfl, hg])
  have qk : (0 : Int) ≤ (k : Int) ∧ (k : Int) < (n : Int) := ⟨by omega, by omega⟩
  refine wpAnyH_take (i := 4) (v := .bool false) rfl (by kernel_rfl) (by kernel_rfl) (by kernel_rfl) (fun _ _ _ h => h) (Or.inl ⟨by rfl, (by intro w hSw; (try dsimp only at hSw); go_simp)⟩) (by assumption) ?_
  try simp only [Act.put, List.getElem_toArray, List.getElem_cons_zero, List.getElem_cons_succ, List.setIfInBounds_toArray, List.set_cons_zero, List.set_cons_succ]
  refine wpAnyH_take (i := 5) (v := .bool false) rfl (by kernel_rfl) (by kernel_rfl) (by kernel_rfl) (fun _ _ _ h => h) (Or.inl ⟨by rfl, (by intro w hSw; (try dsimp only at hSw); go_simp)⟩) (by assumption) ?_
  try simp only [Act.put, List.getElem_toArray, List.getElem_cons_zero, List.getElem_cons_succ, List.setIfInBounds_toArray, List.set_cons_zero, List.set_cons_succ]
  refine wpAnyH_take (i := 6) (v := .agg C) rfl (by kernel_rfl) (by kernel_rfl) (by kernel_rfl) (fun _ _ _ h => h) (yields_plc (by rfl) _ rfl w.heap.size rfl C h11 (fun wq hSw => hSw.pl.1)) (by assumption) ?_
  try simp only [Act.put, List.getElem_toArray, List.getElem_cons_zero, List.getElem_cons_succ, List.setIfInBounds_toArray, List.set_cons_zero, List.set_cons_succ]
  refine wpAnyH_take (i := 7) (v := .pointer (some ⟨w.heap.size + 1, 1, none⟩)) rfl (by kernel_rfl) (by kernel_rfl) (by kernel_rfl) (fun _ _ _ h => h) (Or.inl ⟨by rfl, (by intro w hSw; (try dsimp only at hSw); go_simp)⟩) (by assumption) ?_
  try simp only [Act.put, List.getElem_toArray, List.getElem_cons_zero, List.getElem_cons_succ, List.setIfInBounds_toArray, List.set_cons_zero, List.set_cons_succ]
  refine wpAnyH_take (i := 8) (v := .slice (some ⟨b, off, none⟩) n c) rfl (by kernel_rfl) (by kernel_rfl) (by kernel_rfl) (fun _ _ _ h => h) (Or.inl ⟨by rfl, (by intro wq hSw; have hq := hSw.slice; clear hSw; go_simp)⟩) (by assumption) ?_
  try simp only [Act.put, List.getElem_toArray, List.getElem_cons_zero, List.getElem_cons_succ, List.setIfInBounds_toArray, List.set_cons_zero, List.set_cons_succ]
  refine wpAnyH_take (i := 9) (v := .int .i64 (k : Int)) rfl (by kernel_rfl) (by kernel_rfl) (by kernel_rfl) (fun _ _ _ h => h) (Or.inl ⟨by rfl, (by intro w hSw; (try dsimp only at hSw); go_simp)⟩) (by assumption) ?_
  try simp only [Act.put, List.getElem_toArray, List.getElem_cons_zero, List.getElem_cons_succ, List.setIfInBounds_toArray, List.set_cons_zero, List.set_cons_succ]
  refine wpAnyH_take (i := 10) (v := .pointer (some ⟨b, off + k * 3, none⟩)) rfl (by kernel_rfl) (by kernel_rfl) (by kernel_rfl) (fun _ _ _ h => h) (Or.inl ⟨by rfl, (by intro wq hSw; clear hSw; go_simp)⟩) (by assumption) ?_
  try simp only [Act.put, List.getElem_toArray, List.getElem_cons_zero, List.getElem_cons_succ, List.setIfInBounds_toArray, List.set_cons_zero, List.set_cons_succ]
  refine wpAnyH_take (i := 11) (v := .pointer (some ⟨b, off + k * 3 + 2, none⟩)) rfl (by kernel_rfl) (by kernel_rfl) (by kernel_rfl) (fun _ _ _ h => h) (Or.inl ⟨by rfl, (by intro wq hSw; clear hSw; go_simp)⟩) (by assumption) ?_
  try simp only [Act.put, List.getElem_toArray, List.getElem_cons_zero, List.getElem_cons_succ, List.setIfInBounds_toArray, List.set_cons_zero, List.set_cons_succ]
  refine wpAnyH_take (i := 12) (v := .int .i64 g.since) rfl (by kernel_rfl) (by kernel_rfl) (by kernel_rfl) (fun _ _ _ h => h) (Or.inl ⟨by rfl, (by intro wq hSw; have hq := hSw.since hkn hg; clear hSw; go_simp)⟩) (by assumption) ?_
  try simp only [Act.put, List.getElem_toArray, List.getElem_cons_zero, List.getElem_cons_succ, List.setIfInBounds_toArray, List.set_cons_zero, List.set_cons_succ]
  refine wpAnyH_take (i := 13) (v := .int .i64 now) rfl (by kernel_rfl) (by kernel_rfl) (by kernel_rfl) (fun _ _ _ h => h) (Or.inl ⟨by rfl, (by intro w hSw; (try dsimp only at hSw); go_simp)⟩) (by assumption) ?_
  try simp only [Act.put, List.getElem_toArray, List.getElem_cons_zero, List.getElem_cons_succ, List.setIfInBounds_toArray, List.set_cons_zero, List.set_cons_succ]
  refine wpAnyH_ready (rs := [14]) (by kernel_rfl) (by simp) (AllReadyH.cons rfl (fun K hK => ?_) AllReadyH.nil)
  try simp only [List.getElem_toArray, List.getElem_cons_zero, List.getElem_cons_succ]
  go_simp
  refine (free_any HS.out.pl.2 g.since now).mono ?_
  rintro e wb ⟨rfl, hb⟩
  obtain ⟨b2, hb2⟩ : ∃ b, p.free g.since now = b := ⟨_, rfl⟩
  rw [hb2]
  have HB2 := Lib.hid hb2
  clear hb2
  refine hK.out _ _ (HS.out.on hb) (fun hHeld => ?_)
  clear hK K
  try simp only [Act.put, List.getElem_toArray, List.getElem_cons_zero, List.getElem_cons_succ, List.setIfInBounds_toArray, List.set_cons_zero, List.set_cons_succ]
  have HS := Lib.hid (HS.out.on hb)
  clear hb
  refine wpAnyH_take (i := 15) (v := .bool b2) rfl (by kernel_rfl) (by kernel_rfl) (by kernel_rfl) (fun _ _ _ h => h) (Or.inl ⟨by rfl, (by intro w hSw; (try dsimp only at hSw); go_simp)⟩) (by assumption) ?_
  try simp only [Act.put, List.getElem_toArray, List.getElem_cons_zero, List.getElem_cons_succ, List.setIfInBounds_toArray, List.set_cons_zero, List.set_cons_succ]
  refine wpAnyH_done (by kernel_rfl) ?_ _
  cases b2
  case true =>
    have HE : Hid (r = -1) := Lib.hid (by rw [← HR.out]; exact if_neg fun h => by have := h.2; rw [HGA.out, HB2.out] at this; cases this)
    go_wp2
    go_ret
    exact ⟨ret_i64 HE.out.symm, HS.out.below⟩
  case false =>
    have HE : Hid (r = g.node) := Lib.hid (by rw [← HR.out]; unfold Gt.holder; rw [if_pos ⟨HM.out, by rw [HGA.out]; exact HB2.out⟩, HGA.out])
    have hq := HS.out.slice
    have hq2 := HS.out.node hkn HG.out
    go_wp2
    go_ret
    exact ⟨ret_i64 HE.out.symm, HS.out.below⟩
abbrev gfil (i N : Nat) : List Gt.G := filled Gt.none ⟨0, 0, 0⟩ i N
theorem gfil_ok {i N : Nat} : ∀ x ∈ gfil i N, GE.ok x := by
  intro x hx
  rcases List.mem_append.1 hx with hx | hx
  · rw [List.eq_of_mem_replicate hx]; exact ⟨⟨by decide, by decide⟩, ⟨by decide, by decide⟩, ⟨by decide, by decide⟩⟩
  · rw [List.eq_of_mem_replicate hx]; exact ⟨⟨by decide, by decide⟩, ⟨by decide, by decide⟩, ⟨by decide, by decide⟩⟩
set_option maxHeartbeats 4000000 in
theorem gnew_any {w : World} {S : Nat → Prop} {C : Array Value} {p : Dr.P} (h : Cc w S C p) (now : Int) (hn : In64 now) : Calls Try.prog 8 #[.agg C, .int .i64 now] w (AccQS w (fun b => w.heap.size ≤ b) (Gt.new p now)) := by
  have h11 := h.size
  obtain ⟨w1, hw1, hP, hZ, hb1⟩ : ∃ w1, (w.alloc (.cells C 24)).alloc (.cells az 30) = w1 ∧ Pl w1 w.heap.size C p ∧ Whole w1 (w.heap.size + 1) 30 az ∧ Below w.heap.size w w1 := by
    refine ⟨_, rfl, (Pl.new h).on (below_alloc _ _), ?_, (below_alloc w _).alloc (by simp) _⟩
    have := Whole.new (w.alloc (.cells C 24)) 30 az
    rw [size_alloc] at this
    exact this
  have HW := Lib.hid hw1
  have H1 := Lib.hid (And.intro hP (And.intro hZ hb1))
  have HN := Lib.hid hn
  clear h hw1 hP hZ hb1 hn
  go_enter Try.func8, Try.ntmps8
  go_upto_region 1 with fail
  rw [← az_is, HW.out]
  go_wp2_with (first | ((with_reducible show wpList _ _ _ ((⟨some 7, Op.load 24 (.tmp 2), _, _, _, _⟩ : Oper) :: _) _ _); refine wpList_load_rowG (by rfl) _ (.tmp 2) rfl w.heap.size rfl 24 C (0, 0) _ H1.out.1.1 Try.underlying24 rfl (by rw [h11]; exact info11) ?_) | fail)
  refine (check_any H1.out.1.2).mono ?_
  rintro e w2 ⟨rfl, hb2⟩
  have H2 := Lib.hid (And.intro (H1.out.1.on hb2) (And.intro (H1.out.2.1.below hb2 H1.out.2.1.lt) (H1.out.2.2.trans (hb2.mono H1.out.2.2.size))))
  clear hb2 H1
  by_cases hok : p.ok
  case neg =>
    rw [Dr.P.chk_no hok]
    have HE : Hid (Gt.new p now = ⟨0, []⟩) := Lib.hid (by unfold Gt.new; rw [if_neg hok])
    clear hok
    go_wp2_with (first | ((with_reducible show wpList _ _ _ ((⟨_, Op.build 30 _, _, _, _, _⟩ : Oper) :: _) _ _); refine wpList_built rfl _ rfl [] rfl az.toList (by kernel_rfl) ?_) | ((with_reducible show wpList _ _ _ ((⟨_, Op.store 30 (.tmp 4) _, _, _, _, _⟩ : Oper) :: _) _ _); refine wpList_store_row rfl 30 (.tmp 4) (.tmp 10) rfl (w.heap.size + 1) az rfl rfl 30 _ H2.out.2.1 info_acc rfl (by simp [az, acs, Value.oneCell']) ?_) | fail)
    refine bodyPost_ret (results_one_cell rfl _ _ _ _ rfl (run_loadVar_row _ _ _ _ _ (0, 0) _ (H2.out.2.1.row az) Try.underlying30 rfl info_acc)) rfl ?_
    refine ⟨az, rfl, ?_, below_row H2.out.2.2 (by omega) _⟩
    rw [HE.out]
    exact ⟨none, 0, 0, rfl, Elem.Row.nil _ _ _, Nat.le_refl _, ⟨by decide, by decide⟩, by omega⟩
  rw [Dr.P.chk_ok hok]
  obtain ⟨N, hN⟩ : ∃ N : Nat, p.slots = (N : Int) := ⟨p.slots.toNat, by have := hok.2.1.1; omega⟩
  have hN9 : N ≤ 9 := by have h1 := hok.2.1.2; have h2 := hok.1.2; omega
  have HE : Hid (Gt.new p now = ⟨now, List.replicate N Gt.none⟩) := Lib.hid (by unfold Gt.new; rw [if_pos hok, hN]; rfl)
  have c1 := H2.out.1.cells.2.1
  rw [hN] at c1
  have hmc : madeCells GE.zero.cells (N * GE.K) = (GE.flat (gfil 0 N)).toArray := by
    rw [GE.made_flat ⟨0, 0, 0⟩ rfl]
    unfold gfil
    rw [filled_zero]
  have hmk : ∀ w, (Instr.makeSlice 28 (.int .i64 (N : Int)) (.int .i64 (N : Int))).run Try.prog w = .ok (.slice (some ⟨w.heap.size, 0, none⟩) N N) (w.alloc (.cells (GE.flat (gfil 0 N)).toArray 49)) := fun w => by rw [← hmc]; exact GE.run_makeE N (by omega) w
  go_upto_region 4 with fail
  have hb3 := below_alloc w2 (.cells (GE.flat (gfil 0 N)).toArray 49)
  have hW3 := Whole.new w2 49 (GE.flat (gfil 0 N)).toArray
  have hsz2 : w.heap.size + 1 < w2.heap.size := H2.out.2.1.lt
  generalize w2.alloc (.cells (GE.flat (gfil 0 N)).toArray 49) = w3 at *
  obtain ⟨gb, hgb⟩ : ∃ g, w2.heap.size = g := ⟨_, rfl⟩
  rw [hgb] at hb3 hW3 hsz2 ⊢
  have H0 : Hid (Whole w3 gb 49 (GE.flat (gfil 0 N)).toArray ∧ Below gb w2 w3) := Lib.hid ⟨hW3, hb3⟩
  have HGB := Lib.hid hgb
  clear hb3 hW3 hmk hmc c1 hgb hok hN
  go_wp2
  go_loopw [6, 16] (fun _ v wr => ∃ i : Nat, i ≤ N ∧ v = .int .i64 (i : Int) ∧ Hid (Whole wr gb 49 (GE.flat (gfil i N)).toArray ∧ Below gb w2 wr)) (fun _ v _ => N - (intOf v).toNat)
  case atStart => exact ⟨0, Nat.zero_le _, rfl, H0⟩
  case round =>
    clear H0
    obtain ⟨i, hi, rfl, HJ⟩ := hrel
    by_cases hlt : i < N
    · have q1 : (i : Int) < (N : Int) := by omega
      have hfl : (GE.flat (gfil i N)).length = N * 3 := by rw [GE.flat_len, filled_len _ _ hi]; rfl
      have HFL : Hid (i * 3 + 3 ≤ (GE.flat (gfil i N)).length) := Lib.hid (by rw [hfl]; omega)
      have HST : Hid (splice (GE.flat (gfil i N)) (i * 3) (gcs Gt.none) = GE.flat (gfil (i + 1) N)) := Lib.hid (by
        have h1 := GE.flat_set (gfil i N) i Gt.none (by rw [filled_len _ _ hi]; exact hlt)
        rw [filled_set _ _ hlt] at h1
        exact h1)
      have HV : Hid (Whole (wr.setRow gb (splice (GE.flat (gfil i N)) (i * 3) (gcs Gt.none)).toArray) gb 49 (GE.flat (gfil (i + 1) N)).toArray ∧ Below gb w2 (wr.setRow gb (splice (GE.flat (gfil i N)) (i * 3) (gcs Gt.none)).toArray)) := Lib.hid (by
        rw [HST.out]
        exact ⟨HJ.out.1.row _, below_row HJ.out.2 (Nat.le_refl _) _⟩)
      clear hfl
      go_wp2_with (first | ((with_reducible show wpList _ _ _ ((⟨_, Op.build 49 _, _, _, _, _⟩ : Oper) :: _) _ _); refine wpList_built rfl _ rfl [(0, .int .i64 (-1))] rfl (gcs Gt.none) (by kernel_rfl) ?_) | ((with_reducible show wpList _ _ _ ((⟨_, Op.store 49 (.tmp 22) _, _, _, _, _⟩ : Oper) :: _) _ _); refine wpList_store_part rfl (n := 49) 49 (.tmp 22) (.tmp 21) rfl gb (i * 3) (gcs Gt.none) rfl rfl HJ.out.1 info_gr (fun v hv => GE.one Gt.none v hv) HFL.out ?_) | fail)
      exact ⟨⟨i + 1, by omega, by go_num, HV⟩, by simp [intOf] <;> omega⟩
    · obtain rfl : i = N := by omega
      have q1 : ¬ ((i : Int) < (i : Int)) := by omega
      have HO : Hid (GE.Own wr gb (some ⟨gb, 0, none⟩) i i (List.replicate i Gt.none)) := Lib.hid (by
        have h1 := GE.own_whole HJ.out.1 (Nat.le_refl _) (filled_len _ _ hi) gfil_ok (by omega)
        unfold gfil at h1
        rw [filled_all] at h1
        exact h1)
      have hz : Whole wr (w.heap.size + 1) 30 az := H2.out.2.1.below HJ.out.2 (by omega)
      have HZ := Lib.hid (And.intro hz (H2.out.2.2.trans (HJ.out.2.mono (by rw [← HGB.out]; exact H2.out.2.2.size))))
      clear hz
      go_wp2_with (first | ((with_reducible show wpList _ _ _ ((⟨_, Op.build 30 _, _, _, _, _⟩ : Oper) :: _) _ _); refine wpList_built rfl _ rfl [(0, .int .i64 now), (1, .slice (some ⟨gb, 0, none⟩) i i)] rfl (acs now (some ⟨gb, 0, none⟩) i i).toList (built_aa _ _ _ _) ?_) | ((with_reducible show wpList _ _ _ ((⟨_, Op.store 30 (.tmp 4) _, _, _, _, _⟩ : Oper) :: _) _ _); refine wpList_store_row rfl 30 (.tmp 4) (.tmp 26) rfl (w.heap.size + 1) (acs now (some ⟨gb, 0, none⟩) i i) rfl rfl 30 _ HZ.out.1 info_acc rfl (by simp [acs, Value.oneCell']) ?_) | fail)
      refine bodyPost_ret (results_one_cell rfl _ _ _ _ rfl (run_loadVar_row _ _ _ _ _ (0, 0) _ (HZ.out.1.row (acs now (some ⟨gb, 0, none⟩) i i)) Try.underlying30 rfl info_acc)) rfl ?_
      rw [HE.out]
      refine ⟨_, rfl, ⟨some ⟨gb, 0, none⟩, i, i, rfl, ?_, Nat.le_refl _, HN.out, by omega⟩, below_row HZ.out.2 (by omega) _⟩
      exact (HO.out.row.keep (by simp [World.setRow]) (fun b _ hb => setRow_other wr (w.heap.size + 1) b _ (by omega))).weak (fun b _ hb => by omega)
theorem grs : Grs where
  new := fun h now hn => gnew_any h now hn
  ask := fun h ha s node nonce now h1 h2 h3 h4 => ask_any h ha s node nonce now h2 h3 h4
  free := fun h ha s node nonce h1 h2 h3 => free_g_any h ha s node nonce
  holder := fun h ha s now h1 h2 => holder_any h ha s now
end Go.Proofs.Ytalfcaepobbdeaa
