/-
  The package's New, Ask, Free and Holder: what is asked of them (Grs).
-/
import Derived.Test.YtegdopbiiddamaaMx
import Derived.Shelf.Abstract
namespace Go.Proofs.Ytegdopbiiddamaa.Gt
theorem chg_ask (p : Dr.P) (a : A) (s node nonce now : Int) : chg p a s (fask p a.boot node nonce now) = ask p a s node nonce now := by
  unfold chg ask
  have e : (may p a s ∧ (fask p a.boot node nonce now (at_ a s)).2 = true) ↔ grants p a s node nonce now := by
    unfold fask grants gmay gleft
    simp only [decide_eq_true_eq]
    constructor
    · rintro ⟨h1, ⟨h2, h3, h4, h5⟩, h6, h7⟩
      exact ⟨h1, h2, h3, h4, h5, h6, h7⟩
    · rintro ⟨h1, h2, h3, h4, h5, h6, h7⟩
      exact ⟨h1, ⟨h2, h3, h4, h5⟩, h6, h7⟩
  by_cases h : grants p a s node nonce now
  · rw [if_pos h, if_pos (e.2 h)]
    rfl
  · rw [if_neg h, if_neg (fun q => h (e.1 q))]
theorem chg_free (p : Dr.P) (a : A) (s node nonce : Int) : (chg p a s (ffree node nonce)).1 = free p a s node nonce := by
  unfold chg free
  by_cases h : may p a s ∧ (Gt.at_ a s).node = node ∧ (Gt.at_ a s).nonce = nonce
  · rw [if_pos h, if_pos ⟨h.1, decide_eq_true h.2⟩]
    rfl
  · rw [if_neg h, if_neg (fun q => h ⟨q.1, of_decide_eq_true q.2⟩)]
end Go.Proofs.Ytegdopbiiddamaa.Gt
namespace Go.Proofs.Ytegdopbiiddamaa
open Go.RowKit Go.Great Go.Shelf
set_option linter.unusedVariables false
set_option linter.unusedSimpArgs false
set_option maxRecDepth 20000
theorem eg_ask : ∀ args w, (callFunc 46 args).run Try.prog w = .ok (.enter 46 args) w := enters_of Try.func46 (by kernel_rfl) rfl
theorem new_cell {w : World} (t : TypeId) (v : Value) : (w.alloc (.cells #[v] t)).cell? ⟨w.heap.size, 0, none⟩ = some v := (Whole.new w t #[v]).cell 0
set_option maxHeartbeats 4000000 in
theorem ask_any {w : World} {S T : Nat → Prop} {C V : Array Value} {p : Dr.P} {a : Gt.A} (h : Cc w S C p) (ha : AccS w T V a) (s node nonce now : Int) (h2 : In64 node) (h3 : In64 nonce) (h4 : In64 now) :
    Calls Try.prog 27 #[.agg C, .agg V, .int .i64 s, .int .i64 node, .int .i64 nonce, .int .i64 now] w (AccBS w (fun b => T b ∨ w.heap.size ≤ b) (Gt.ask p a s node nonce now).1 (Gt.ask p a s node nonce now).2) := by
  have h11 := h.size
  have hmf : ∀ (fn : Fn) (first cap : Array Value) (w : World), (Instr.makeFunc fn first cap).run Try.prog w = .ok (.func fn first cap) w := fun _ _ _ _ => rfl
  obtain ⟨w1, hw1, hP, hA, hb1⟩ := boxes_pa h ha.acc
  have hs1 : w1.heap.size = w.heap.size + 1 + 1 := by rw [← hw1, size_alloc, size_alloc]
  obtain ⟨w2, hw2, cN, cO, cT, hZ, hb2, hs2⟩ : ∃ w2, (((w1.alloc (.cells #[.int .i64 node] 3)).alloc (.cells #[.int .i64 nonce] 2)).alloc (.cells #[.int .i64 now] 2)).alloc (.cells az 45) = w2 ∧ w2.cell? ⟨w.heap.size + 1 + 1, 0, none⟩ = some (.int .i64 node) ∧ w2.cell? ⟨w.heap.size + 1 + 1 + 1, 0, none⟩ = some (.int .i64 nonce) ∧ w2.cell? ⟨w.heap.size + 1 + 1 + 1 + 1, 0, none⟩ = some (.int .i64 now) ∧ Whole w2 (w.heap.size + 1 + 1 + 1 + 1 + 1) 45 az ∧ Below w1.heap.size w1 w2 ∧ w2.heap.size = w.heap.size + 1 + 1 + 1 + 1 + 1 + 1 := by
    refine ⟨_, rfl, ?_, ?_, ?_, ?_, (((below_alloc w1 _).alloc (by simp) _).alloc (by simp; omega) _).alloc (by simp; omega) _, by simp [hs1]⟩
    · have := cell_al (cell_al (cell_al (new_cell (w := w1) 3 (.int .i64 node)) (.cells #[.int .i64 nonce] 2)) (.cells #[.int .i64 now] 2)) (.cells az 45)
      rw [hs1] at this
      exact this
    · have := cell_al (cell_al (new_cell (w := w1.alloc (.cells #[.int .i64 node] 3)) 2 (.int .i64 nonce)) (.cells #[.int .i64 now] 2)) (.cells az 45)
      rw [size_alloc, hs1] at this
      exact this
    · have := cell_al (new_cell (w := (w1.alloc (.cells #[.int .i64 node] 3)).alloc (.cells #[.int .i64 nonce] 2)) 2 (.int .i64 now)) (.cells az 45)
      rw [size_alloc, size_alloc, hs1] at this
      exact this
    · have := Whole.new (((w1.alloc (.cells #[.int .i64 node] 3)).alloc (.cells #[.int .i64 nonce] 2)).alloc (.cells #[.int .i64 now] 2)) 45 az
      rw [size_alloc, size_alloc, size_alloc, hs1] at this
      exact this
  have hP2 := hP.on hb2
  have hA2 := hA.on hb2
  have hc : Chg 46 #[.pointer (some ⟨w.heap.size + 1 + 1, 0, none⟩), .pointer (some ⟨w.heap.size + 1 + 1 + 1, 0, none⟩), .pointer (some ⟨w.heap.size + 1 + 1 + 1 + 1, 0, none⟩), .pointer (some ⟨w.heap.size, 0, none⟩), .pointer (some ⟨w.heap.size + 1, 0, none⟩)] (fask p a.boot node nonce now) w2 := by
    intro W g hW hg
    exact ask1_any g (hP2.on hW) (hA2.on hW) ((hW.cell (p := ⟨w.heap.size + 1 + 1, 0, none⟩) (World.block_lt_of_cell? w2 _ cN)).trans cN) ((hW.cell (p := ⟨w.heap.size + 1 + 1 + 1, 0, none⟩) (World.block_lt_of_cell? w2 _ cO)).trans cO) ((hW.cell (p := ⟨w.heap.size + 1 + 1 + 1 + 1, 0, none⟩) (World.block_lt_of_cell? w2 _ cT)).trans cT)
  have HC := Lib.hid (changed_any eg_ask hc (fun g hg => ⟨h2, h3, h4⟩) hP2.2 hA2.2 s)
  rw [Gt.chg_ask] at HC
  have HW := Lib.hid (And.intro hw1 hw2)
  have HB := Lib.hid (And.intro (hb1.trans (hb2.mono hb1.size)) (And.intro hZ (And.intro hP2 hA2)))
  have HSZ := Lib.hid (And.intro hs1 hs2)
  obtain ⟨r, hr⟩ : ∃ r, Gt.ask p a s node nonce now = r := ⟨_, rfl⟩
  rw [hr] at HC ⊢
  obtain ⟨ad, n, c, rfl, hrow, hnc, hbt, hn⟩ := ha
  clear h hw1 hw2 hP hA hP2 hA2 hb1 hb2 hZ hc cN cO cT hr hrow h2 h3 h4
  go_enter Try.func27, Try.ntmps27
  go_upto_region 1 with fail
  rw [← az_is, HW.out.1]
  rw [HW.out.2]
  go_wp2_with (first | ((with_reducible show wpList _ _ _ ((⟨some 14, Op.load 24 (.tmp 6), _, _, _, _⟩ : Oper) :: _) _ _); refine wpList_load_rowG (by rfl) _ (.tmp 6) rfl w.heap.size rfl 24 C (0, 0) _ HB.out.2.2.1.1 Try.underlying24 rfl (by rw [h11]; exact info11) ?_) | ((with_reducible show wpList _ _ _ ((⟨some 15, Op.load 45 (.tmp 7), _, _, _, _⟩ : Oper) :: _) _ _); refine wpList_load_rowG (by rfl) _ (.tmp 7) rfl (w.heap.size + 1) rfl 45 (acs a.boot ad n c) (0, 0) _ HB.out.2.2.2.1 Try.underlying45 rfl info_acc ?_) | fail)
  refine HC.out.mono ?_
  rintro e w3 ⟨V3, rfl, ha3, hb3⟩
  have h6 := ha3.acc.size
  have h6o := ha3.acc.one
  have HZ := Lib.hid (HB.out.2.1.below hb3 HB.out.2.1.lt)
  have HA := Lib.hid (And.intro ha3 (HB.out.1.trans (hb3.mono HB.out.1.size)))
  clear ha3 hb3 HC
  go_wp2_with (first | ((with_reducible show wpList _ _ _ ((⟨_, Op.store 45 (.tmp 12) _, _, _, _, _⟩ : Oper) :: _) _ _); refine wpList_store_row rfl 45 (.tmp 12) (.tmp 19) rfl (w.heap.size + 1 + 1 + 1 + 1 + 1) V3 rfl rfl 45 _ HZ.out (by rw [h6]; exact info_acc) (by rw [h6]; rfl) h6o ?_) | fail)
  refine bodyPost_ret (results_cell_one rfl _ _ _ _ rfl (run_loadVar_row _ _ _ _ _ (0, 0) _ (HZ.out.row V3) Try.underlying45 rfl (by rw [h6]; exact info_acc))) rfl ?_
  exact ⟨_, rfl, (HA.out.1.keep (by simp [World.setRow]) (fun b _ hb => setRow_other _ _ b _ (by have := HSZ.out.2; omega))).weak (fun b _ hb => Or.inr (by have := HSZ.out.2; omega)), below_row HA.out.2 (by omega) _⟩
/-- What Holder's region reads. -/
structure Hol (w0 w : World) (C V : Array Value) (p : Dr.P) (a : Gt.A) : Prop where
  pl : Pl w w0.heap.size C p
  ab : Ab w (w0.heap.size + 1) V a
  below : Below w0.heap.size w0 w
theorem Hol.on {w0 w w' : World} {C V : Array Value} {p : Dr.P} {a : Gt.A} (h : Hol w0 w C V p a) (hb : Below w.heap.size w w') : Hol w0 w' C V p a := ⟨h.pl.on hb, h.ab.on hb, h.below.trans (hb.mono h.below.size)⟩
theorem Hol.slice {w0 w : World} {boot : Int} {C : Array Value} {ad : Option Addr} {n c : Nat} {p : Dr.P} {a : Gt.A} (h : Hol w0 w C (acs boot ad n c) p a) : w.cell? ⟨w0.heap.size + 1, 1, none⟩ = some (.slice ad n c) := h.ab.1.cell 1
theorem Hol.at3 {w0 w : World} {boot : Int} {C : Array Value} {b off n c k : Nat} {p : Dr.P} {a : Gt.A} (h : Hol w0 w C (acs boot (some ⟨b, off, none⟩) n c) p a) (hk : k < n) : w.rangeAt b (off + k * 3) (gcs (a.gs.getD k Gt.none)) := by
  obtain ⟨b', off', e, _, _, hr⟩ := h.ab.2.row.at_ hk
  injection e with e
  injection e with e1 e2
  subst e1 e2
  exact hr
theorem Hol.since {w0 w : World} {boot : Int} {C : Array Value} {b off n c k : Nat} {p : Dr.P} {a : Gt.A} {g : Gt.G} (h : Hol w0 w C (acs boot (some ⟨b, off, none⟩) n c) p a) (hk : k < n) (hg : a.gs.getD k Gt.none = g) : w.cell? ⟨b, off + k * 3 + 2, none⟩ = some (.int .i64 g.since) := by
  have := h.at3 hk
  rw [hg] at this
  exact this 2 _ rfl
theorem Hol.node {w0 w : World} {boot : Int} {C : Array Value} {b off n c k : Nat} {p : Dr.P} {a : Gt.A} {g : Gt.G} (h : Hol w0 w C (acs boot (some ⟨b, off, none⟩) n c) p a) (hk : k < n) (hg : a.gs.getD k Gt.none = g) : w.cell? ⟨b, off + k * 3, none⟩ = some (.int .i64 g.node) := by
  have := h.at3 hk
  rw [hg] at this
  exact this 0 _ rfl
theorem yields_ac {ops : Array Oper} {S : World → Prop} {op : Oper} {a : Act} (hw : Region.wanted op (yielded ops a.tmps) = true) (x : Operand) (ho : op.op = .load 45 x)
    (b : Nat) (hx : a.eval x = .pointer (some ⟨b, 0, none⟩)) (V : Array Value) (hV : V.size = 2) (hS : ∀ w, S w → Whole w b 45 V) : YieldsIf Try.prog ops S op (.agg V) a :=
  .inl ⟨hw, fun w hw' => by
    unfold execOp
    simp only [ho, hx, Instr.loadAt, Instr.sureAddr, Sem.run_bind, Sem.run_pure, Result.andThen_ok, run_loadVar_row w b 45 45 V (0, 0) _ (hS w hw') Try.underlying45 rfl (by rw [hV]; exact info_acc)]⟩
abbrev gfil (i N : Nat) : List Gt.G := filled Gt.none ⟨0, 0, 0⟩ i N
theorem gfil_ok {i N : Nat} : ∀ x ∈ gfil i N, GE.ok x := by
  intro x hx
  rcases List.mem_append.1 hx with hx | hx
  · rw [List.eq_of_mem_replicate hx]; exact ⟨⟨by decide, by decide⟩, ⟨by decide, by decide⟩, ⟨by decide, by decide⟩⟩
  · rw [List.eq_of_mem_replicate hx]; exact ⟨⟨by decide, by decide⟩, ⟨by decide, by decide⟩, ⟨by decide, by decide⟩⟩
set_option maxHeartbeats 4000000 in
theorem gnew_any {w : World} {S : Nat → Prop} {C : Array Value} {p : Dr.P} (h : Cc w S C p) (now : Int) (hn : In64 now) : Calls Try.prog 23 #[.agg C, .int .i64 now] w (AccQS w (fun b => w.heap.size ≤ b) (Gt.new p now)) := by
  have h11 := h.size
  obtain ⟨w1, hw1, hP, hZ, hb1⟩ : ∃ w1, (w.alloc (.cells C 24)).alloc (.cells az 45) = w1 ∧ Pl w1 w.heap.size C p ∧ Whole w1 (w.heap.size + 1) 45 az ∧ Below w.heap.size w w1 := by
    refine ⟨_, rfl, (Pl.new h).on (below_alloc _ _), ?_, (below_alloc w _).alloc (by simp) _⟩
    have := Whole.new (w.alloc (.cells C 24)) 45 az
    rw [size_alloc] at this
    exact this
  have HW := Lib.hid hw1
  have H1 := Lib.hid (And.intro hP (And.intro hZ hb1))
  have HN := Lib.hid hn
  clear h hw1 hP hZ hb1 hn
  go_enter Try.func23, Try.ntmps23
  go_upto_region 1 with fail
  rw [← az_is, HW.out]
  go_wp2_with (first | ((with_reducible show wpList _ _ _ ((⟨some 7, Op.load 24 (.tmp 2), _, _, _, _⟩ : Oper) :: _) _ _); refine wpList_load_rowG (by rfl) _ (.tmp 2) rfl w.heap.size rfl 24 C (0, 0) _ H1.out.1.1 Try.underlying24 rfl (by rw [h11]; exact info11) ?_) | fail)
  refine (check_any H1.out.1.2).mono ?_
  rintro e w2 ⟨rfl, hb2⟩
  have H2 := Lib.hid (And.intro (H1.out.1.on hb2) (And.intro (H1.out.2.1.below hb2 H1.out.2.1.lt) (H1.out.2.2.trans (hb2.mono H1.out.2.2.size))))
  clear hb2 H1
  by_cases hok : p.ok
  case neg =>
    rw [Dr.P.chk_no hok]
    have HE : Hid (Gt.new p now = ⟨0, []⟩) := Lib.hid (by unfold Gt.new; rw [if_neg hok])
    clear hok
    go_wp2_with (first | ((with_reducible show wpList _ _ _ ((⟨_, Op.build 45 _, _, _, _, _⟩ : Oper) :: _) _ _); refine wpList_built rfl _ rfl [] rfl az.toList (by kernel_rfl) ?_) | ((with_reducible show wpList _ _ _ ((⟨_, Op.store 45 (.tmp 4) _, _, _, _, _⟩ : Oper) :: _) _ _); refine wpList_store_row rfl 45 (.tmp 4) (.tmp 10) rfl (w.heap.size + 1) az rfl rfl 45 _ H2.out.2.1 info_acc rfl (by simp [az, acs, Value.oneCell']) ?_) | fail)
    refine bodyPost_ret (results_one_cell rfl _ _ _ _ rfl (run_loadVar_row _ _ _ _ _ (0, 0) _ (H2.out.2.1.row az) Try.underlying45 rfl info_acc)) rfl ?_
    refine ⟨az, rfl, ?_, below_row H2.out.2.2 (by omega) _⟩
    rw [HE.out]
    exact ⟨none, 0, 0, rfl, Elem.Row.nil _ _ _, Nat.le_refl _, ⟨by decide, by decide⟩, by omega⟩
  rw [Dr.P.chk_ok hok]
  obtain ⟨N, hN⟩ : ∃ N : Nat, p.slots = (N : Int) := ⟨p.slots.toNat, by have := hok.2.1.1; omega⟩
  have hN9 : N ≤ 9 := by have h1 := hok.2.1.2; have h2 := hok.1.2; omega
  have HE : Hid (Gt.new p now = ⟨now, List.replicate N Gt.none⟩) := Lib.hid (by unfold Gt.new; rw [if_pos hok, hN]; rfl)
  have c1 := H2.out.1.cells.2.1
  rw [hN] at c1
  have hmc : madeCells GE.zero.cells (N * GE.K) = (GE.flat (gfil 0 N)).toArray := by
    rw [GE.made_flat ⟨0, 0, 0⟩ rfl]
    unfold gfil
    rw [filled_zero]
  have hmk : ∀ w, (Instr.makeSlice 43 (.int .i64 (N : Int)) (.int .i64 (N : Int))).run Try.prog w = .ok (.slice (some ⟨w.heap.size, 0, none⟩) N N) (w.alloc (.cells (GE.flat (gfil 0 N)).toArray 67)) := fun w => by rw [← hmc]; exact GE.run_makeE N (by omega) w
  go_upto_region 4 with fail
  have hb3 := below_alloc w2 (.cells (GE.flat (gfil 0 N)).toArray 67)
  have hW3 := Whole.new w2 67 (GE.flat (gfil 0 N)).toArray
  have hsz2 : w.heap.size + 1 < w2.heap.size := H2.out.2.1.lt
  generalize w2.alloc (.cells (GE.flat (gfil 0 N)).toArray 67) = w3 at *
  obtain ⟨gb, hgb⟩ : ∃ g, w2.heap.size = g := ⟨_, rfl⟩
  rw [hgb] at hb3 hW3 hsz2 ⊢
  have H0 : Hid (Whole w3 gb 67 (GE.flat (gfil 0 N)).toArray ∧ Below gb w2 w3) := Lib.hid ⟨hW3, hb3⟩
  have HGB := Lib.hid hgb
  clear hb3 hW3 hmk hmc c1 hgb hok hN
  go_wp2
  go_loopw [6, 16] (fun _ v wr => ∃ i : Nat, i ≤ N ∧ v = .int .i64 (i : Int) ∧ Hid (Whole wr gb 67 (GE.flat (gfil i N)).toArray ∧ Below gb w2 wr)) (fun _ v _ => N - (intOf v).toNat)
  case atStart => exact ⟨0, Nat.zero_le _, rfl, H0⟩
  case round =>
    clear H0
    obtain ⟨i, hi, rfl, HJ⟩ := hrel
    by_cases hlt : i < N
    · have q1 : (i : Int) < (N : Int) := by omega
      have hfl : (GE.flat (gfil i N)).length = N * 3 := by rw [GE.flat_len, filled_len _ _ hi]; rfl
      have HFL : Hid (i * 3 + 3 ≤ (GE.flat (gfil i N)).length) := Lib.hid (by rw [hfl]; omega)
      have HST : Hid (splice (GE.flat (gfil i N)) (i * 3) (gcs Gt.none) = GE.flat (gfil (i + 1) N)) := Lib.hid (by
        have h1 := GE.flat_set (gfil i N) i Gt.none (by rw [filled_len _ _ hi]; exact hlt)
        rw [filled_set _ _ hlt] at h1
        exact h1)
      have HV : Hid (Whole (wr.setRow gb (splice (GE.flat (gfil i N)) (i * 3) (gcs Gt.none)).toArray) gb 67 (GE.flat (gfil (i + 1) N)).toArray ∧ Below gb w2 (wr.setRow gb (splice (GE.flat (gfil i N)) (i * 3) (gcs Gt.none)).toArray)) := Lib.hid (by
        rw [HST.out]
        exact ⟨HJ.out.1.row _, below_row HJ.out.2 (Nat.le_refl _) _⟩)
      clear hfl
      go_wp2_with (first | ((with_reducible show wpList _ _ _ ((⟨_, Op.build 67 _, _, _, _, _⟩ : Oper) :: _) _ _); refine wpList_built rfl _ rfl [(0, .int .i64 (-1))] rfl (gcs Gt.none) (by kernel_rfl) ?_) | ((with_reducible show wpList _ _ _ ((⟨_, Op.store 67 (.tmp 22) _, _, _, _, _⟩ : Oper) :: _) _ _); refine wpList_store_part rfl (n := 67) 67 (.tmp 22) (.tmp 21) rfl gb (i * 3) (gcs Gt.none) rfl rfl HJ.out.1 info_gr (fun v hv => GE.one Gt.none v hv) HFL.out ?_) | fail)
      exact ⟨⟨i + 1, by omega, by go_num, HV⟩, by simp [intOf] <;> omega⟩
    · obtain rfl : i = N := by omega
      have q1 : ¬ ((i : Int) < (i : Int)) := by omega
      have HO : Hid (GE.Own wr gb (some ⟨gb, 0, none⟩) i i (List.replicate i Gt.none)) := Lib.hid (by
        have h1 := GE.own_whole HJ.out.1 (Nat.le_refl _) (filled_len _ _ hi) gfil_ok (by omega)
        unfold gfil at h1
        rw [filled_all] at h1
        exact h1)
      have hz : Whole wr (w.heap.size + 1) 45 az := H2.out.2.1.below HJ.out.2 (by omega)
      have HZ := Lib.hid (And.intro hz (H2.out.2.2.trans (HJ.out.2.mono (by rw [← HGB.out]; exact H2.out.2.2.size))))
      clear hz
      go_wp2_with (first | ((with_reducible show wpList _ _ _ ((⟨_, Op.build 45 _, _, _, _, _⟩ : Oper) :: _) _ _); refine wpList_built rfl _ rfl [(0, .int .i64 now), (1, .slice (some ⟨gb, 0, none⟩) i i)] rfl (acs now (some ⟨gb, 0, none⟩) i i).toList (built_aa _ _ _ _) ?_) | ((with_reducible show wpList _ _ _ ((⟨_, Op.store 45 (.tmp 4) _, _, _, _, _⟩ : Oper) :: _) _ _); refine wpList_store_row rfl 45 (.tmp 4) (.tmp 26) rfl (w.heap.size + 1) (acs now (some ⟨gb, 0, none⟩) i i) rfl rfl 45 _ HZ.out.1 info_acc rfl (by simp [acs, Value.oneCell']) ?_) | fail)
      refine bodyPost_ret (results_one_cell rfl _ _ _ _ rfl (run_loadVar_row _ _ _ _ _ (0, 0) _ (HZ.out.1.row (acs now (some ⟨gb, 0, none⟩) i i)) Try.underlying45 rfl info_acc)) rfl ?_
      rw [HE.out]
      refine ⟨_, rfl, ⟨some ⟨gb, 0, none⟩, i, i, rfl, ?_, Nat.le_refl _, HN.out, by omega⟩, below_row HZ.out.2 (by omega) _⟩
      exact (HO.out.row.keep (by simp [World.setRow]) (fun b _ hb => setRow_other wr (w.heap.size + 1) b _ (by omega))).weak (fun b _ hb => by omega)
theorem grsA : GrsA where
  new := fun h now hn => gnew_any h now hn
  ask := fun h ha s node nonce now h1 h2 h3 h4 => ask_any h ha s node nonce now h2 h3 h4
end Go.Proofs.Ytegdopbiiddamaa
