/-
  What the package's functions are to answer (Lea); boxes that a walk keeps; the walk of the statements' awake.
-/
import Derived.Test.YtegdopbiiddamaaS4
namespace Go.Proofs.Ytegdopbiiddamaa
open Go.RowKit Go.Great
set_option linter.unusedVariables false
set_option linter.unusedSimpArgs false
set_option maxRecDepth 20000
/-- What the package's functions are to answer. -/
structure Lea : Prop where
  ask : ∀ (w : World) (s no now : Int), In64 s → In64 no → In64 now → Calls Try.prog 13 #[.int .i64 s, .int .i64 no, .int .i64 now] w (LseQ w ⟨s, no, now, []⟩)
  grant : ∀ {w : World} {S : Nat → Prop} {C V : Array Value} {p : Dr.P} {l : Ln.L}, Cc w S C p → Lse w V l → l.fr.length ≤ 1000 → ∀ (node s no : Int), In64 node → In64 s → In64 no →
    Calls Try.prog 11 #[.agg C, .agg V, .int .i64 node, .int .i64 s, .int .i64 no] w (LseQ w (Ln.grant p l node s no))
  held : ∀ {w : World} {S : Nat → Prop} {C V : Array Value} {p : Dr.P} {l : Ln.L}, Cc w S C p → Lse w V l → l.fr.length ≤ 1000 → ∀ (now : Int), In64 now → Calls Try.prog 14 #[.agg C, .agg V, .int .i64 now] w fun e w' => e = .returned (.bool (Ln.held p l now)) ∧ Below w.heap.size w w'
  late : ∀ {w : World} {S : Nat → Prop} {C V : Array Value} {p : Dr.P} {l : Ln.L}, Cc w S C p → Lse w V l → l.fr.length ≤ 1000 → ∀ (now : Int), In64 now → Calls Try.prog 16 #[.agg C, .agg V, .int .i64 now] w fun e w' => e = .returned (.bool (Ln.late p l now)) ∧ Below w.heap.size w w'
  fits : ∀ {w : World} {S : Nat → Prop} {C V : Array Value} {p : Dr.P} {l : Ln.L}, Cc w S C p → Lse w V l → l.fr.length ≤ 1000 → ∀ (now : Int), In64 now → Calls Try.prog 18 #[.agg C, .agg V, .int .i64 now] w fun e w' => e = .returned (.bool (Ln.fits p l now)) ∧ Below w.heap.size w w'
  slot : ∀ {w : World} {S : Nat → Prop} {C : Array Value} {p : Dr.P}, Cc w S C p → ∀ (node n : Int), In64 node → In64 n → Calls Try.prog 20 #[.agg C, .int .i64 node, .int .i64 n] w fun e w' => e = .returned (.int .i64 (Ln.slot p node n)) ∧ Below w.heap.size w w'
/-- Boxes that are kept: a plan, and leases. -/
structure LKit (w0 w : World) (g : Nat) (C : Array Value) (p : Dr.P) (L : List (Nat × Array Value × Ln.L)) : Prop where
  pl : Pl w g C p
  bs : ∀ q ∈ L, Lb w q.1 q.2.1 q.2.2
  below : Below w0.heap.size w0 w
theorem LKit.on {w0 w w' : World} {g : Nat} {C : Array Value} {p : Dr.P} {L : List (Nat × Array Value × Ln.L)} (h : LKit w0 w g C p L) (hb : Below w.heap.size w w') : LKit w0 w' g C p L := ⟨h.pl.on hb, fun q hq => (h.bs q hq).on hb, h.below.trans (hb.mono h.below.size)⟩
theorem LKit.drew {w0 w : World} {g : Nat} {C : Array Value} {p : Dr.P} {L : List (Nat × Array Value × Ln.L)} (h : LKit w0 w g C p L) : LKit w0 w.drew g C p L := h.on (Below.refl _ _).drew
theorem LKit.add {w0 w : World} {g : Nat} {C : Array Value} {p : Dr.P} {L : List (Nat × Array Value × Ln.L)} (h : LKit w0 w g C p L) {q : Nat × Array Value × Ln.L} (hq : Lb w q.1 q.2.1 q.2.2) : LKit w0 w g C p (q :: L) := ⟨h.pl, fun x hx => (List.mem_cons.1 hx).elim (fun e => by rw [e]; exact hq) (fun hx => h.bs x hx), h.below⟩
theorem LKit.drop {w0 w : World} {g : Nat} {C : Array Value} {p : Dr.P} {q : Nat × Array Value × Ln.L} {L : List (Nat × Array Value × Ln.L)} (h : LKit w0 w g C p (q :: L)) : LKit w0 w g C p L := ⟨h.pl, fun x hx => h.bs x (List.mem_cons_of_mem _ hx), h.below⟩
theorem lkit_new {w0 w : World} {g : Nat} {C V : Array Value} {p : Dr.P} {l : Ln.L} {L : List (Nat × Array Value × Ln.L)} (h : LKit w0 w g C p L) (ha : Lse w V l) : LKit w0 ((w.alloc (.cells lz 26)).setRow w.heap.size V) g C p ((w.heap.size, V, l) :: L) := by
  have hb : Below w.heap.size w ((w.alloc (.cells lz 26)).setRow w.heap.size V) := below_row (below_alloc w _) (Nat.le_refl _) _
  exact (h.on hb).add ⟨(Whole.new w 26 lz).row V, ha.on hb⟩
theorem Lse.over {w : World} {gb : Nat} {X V : Array Value} {l : Ln.L} (h : Lse w V l) (hz : Whole w gb 26 lz) (hn : ∀ x ∈ l.fr, x ≠ 0) : Lse (w.setRow gb X) V l := by
  obtain ⟨ad, n, c, e, ⟨h1, h2, h3⟩, h4⟩ := h
  refine ⟨ad, n, c, e, ?_, h4⟩
  have hs : Ns w (fun b => b ≠ gb) ad n l.fr := by
    refine ⟨h1, h2, ?_⟩
    rcases h3 with h | ⟨b, off, rfl, hs, hb, hc⟩
    · exact Or.inl h
    · by_cases hl : l.fr = []
      · exact Or.inl hl
      refine Or.inr ⟨b, off, rfl, fun eb => ?_, hb, hc⟩
      obtain ⟨x, t, hxt⟩ := List.exists_cons_of_ne_nil hl
      have hx : x ≠ 0 := hn x (by rw [hxt]; exact List.mem_cons_self ..)
      have := hc 0 (by rw [← h1, hxt]; simp)
      rw [eb, hz.cell, hxt] at this
      match off, this with
      | 0, this => exact hx (by simpa [lz_is] using this.symm)
      | 1, this => exact hx (by simpa [lz_is] using this.symm)
      | 2, this => exact hx (by simpa [lz_is] using this.symm)
      | 3, this => simp [lz_is] at this
      | k + 4, this => simp [lz_is] at this
  exact (hs.keep (by simp [World.setRow]) (fun b _ hb => setRow_other _ _ _ _ hb)).weak fun _ _ _ => trivial
theorem lkit_late {w0 wd w : World} {g gb : Nat} {C V : Array Value} {p : Dr.P} {l : Ln.L} {L : List (Nat × Array Value × Ln.L)} (h : LKit w0 wd g C p L) (hb : Below wd.heap.size wd w) (hg : wd.heap.size ≤ gb) (hz : Whole w gb 26 lz) (ha : Lse w V l) (hn : ∀ x ∈ l.fr, x ≠ 0) : LKit w0 (w.setRow gb V) g C p ((gb, V, l) :: L) :=
  (h.on (below_row hb hg V)).add ⟨hz.row V, ha.over hz hn⟩
/-- A new box that is still to be written: what was kept when it was made. -/
structure Slt (w0 wd w : World) (g : Nat) (C : Array Value) (p : Dr.P) (L : List (Nat × Array Value × Ln.L)) (gb : Nat) : Prop where
  box : Whole w gb 26 lz
  kit : LKit w0 wd g C p L
  below : Below wd.heap.size wd w
  far : wd.heap.size ≤ gb
theorem Slt.on {w0 wd w w' : World} {g gb : Nat} {C : Array Value} {p : Dr.P} {L : List (Nat × Array Value × Ln.L)} (h : Slt w0 wd w g C p L gb) (hb : Below w.heap.size w w') : Slt w0 wd w' g C p L gb := ⟨h.box.below hb h.box.lt, h.kit, h.below.trans (hb.mono h.below.size), h.far⟩
theorem Slt.new {w0 w : World} {g : Nat} {C : Array Value} {p : Dr.P} {L : List (Nat × Array Value × Ln.L)} (h : LKit w0 w g C p L) : Slt w0 w (w.alloc (.cells lz 26)) g C p L w.heap.size := ⟨Whole.new w _ _, h, below_alloc w _, Nat.le_refl _⟩
/-- At the head of all statements. -/
def LAwake : Prop := ∀ w : World, Calls Try.prog 8 #[] w fun e w' => e = .returned (.bool true) ∧ Below w.heap.size w w'
theorem lin_lit {x : Int} (h : -1000000 ≤ x ∧ x ≤ 1000000) : In64 x := by constructor <;> omega
theorem yields_lb {ops : Array Oper} {S : World → Prop} {op : Oper} {a : Act} (hw : Region.wanted op (yielded ops a.tmps) = true) (x : Operand) (ho : op.op = .load 26 x)
    (b : Nat) (hx : a.eval x = .pointer (some ⟨b, 0, none⟩)) (V : Array Value) (hV : V.size = 4) (hS : ∀ w, S w → Whole w b 26 V) : YieldsIf Try.prog ops S op (.agg V) a :=
  .inl ⟨hw, fun w hw' => by
    unfold execOp
    simp only [ho, hx, Instr.loadAt, Instr.sureAddr, Sem.run_bind, Sem.run_pure, Result.andThen_ok, run_loadVar_row w b 26 26 V (0, 0) _ (hS w hw') Try.underlying26 rfl (by rw [hV]; exact info_ls)]⟩
theorem yields_lp {ops : Array Oper} {S : World → Prop} {op : Oper} {a : Act} (hw : Region.wanted op (yielded ops a.tmps) = true) (x : Operand) (ho : op.op = .load 24 x)
    (b : Nat) (hx : a.eval x = .pointer (some ⟨b, 0, none⟩)) (C : Array Value) (hV : C.size = 11) (hS : ∀ w, S w → Whole w b 24 C) : YieldsIf Try.prog ops S op (.agg C) a :=
  .inl ⟨hw, fun w hw' => by
    unfold execOp
    simp only [ho, hx, Instr.loadAt, Instr.sureAddr, Sem.run_bind, Sem.run_pure, Result.andThen_ok, run_loadVar_row w b 24 24 C (0, 0) _ (hS w hw') Try.underlying24 rfl (by rw [hV]; exact info11)]⟩
def l0 : Ln.L := ⟨0, 7, 5, []⟩
def l1 : Ln.L := ⟨0, 7, 5, [1]⟩
def l2 : Ln.L := ⟨0, 7, 5, [1, 2]⟩
set_option maxHeartbeats 8000000 in
theorem lawake_walk (hg : Lea) : LAwake := by
  intro w
  have HG := Lib.hid hg
  clear hg
  go_enter Try.func8, Try.ntmps8
  go_wp2_with fail
  refine (plan_any w).mono ?_
  rintro e w1 ⟨C, rfl, hC, hb1⟩
  have h11 := hC.size
  have hone := hC.all
  have HC := Lib.hid (And.intro hC hb1)
  clear hC hb1
  go_upto_region 2 with (first | ((with_reducible show wpList _ _ _ ((⟨_, Op.store 24 (.tmp 1) _, _, _, _, _⟩ : Oper) :: _) _ _); refine wpList_store_row rfl 24 (.tmp 1) (.tmp 6) rfl w1.heap.size C rfl rfl 24 pz (Whole.new w1 24 pz) (by rw [h11]; exact info11) (by rw [h11]; rfl) hone ?_) | fail)
  rw [← pz_is]
  have HK : Hid (LKit w ((w1.alloc (.cells pz 24)).setRow w1.heap.size C) w1.heap.size C P15 []) := Lib.hid (by
    have hb : Below w1.heap.size w1 ((w1.alloc (.cells pz 24)).setRow w1.heap.size C) := below_row (below_alloc w1 _) (Nat.le_refl _) _
    exact ⟨⟨(Whole.new w1 24 pz).row C, (HC.out.1.below hb (fun b h _ => h))⟩, (fun q hq => by cases hq), HC.out.2.trans (hb.mono HC.out.2.size)⟩)
  clear HC hone
  generalize (w1.alloc (.cells pz 24)).setRow w1.heap.size C = w2 at *
  go_wp2_with fail
  refine (HG.out.ask w2 0 7 5 (lin_lit (by omega)) (lin_lit (by omega)) (lin_lit (by omega))).mono ?_
  rintro e w3 ⟨V3, rfl, ha, hb⟩
  rw [show (⟨0, 7, 5, []⟩ : Ln.L) = l0 from rfl] at ha
  have HK := Lib.hid (HK.out.on hb)
  clear hb
  have h6 := ha.size
  have h6o := ha.one
  have HA := Lib.hid ha
  clear ha
  go_upto_region 3 with (first | ((with_reducible show wpList _ _ _ ((⟨_, Op.store 26 (.tmp 2) _, _, _, _, _⟩ : Oper) :: _) _ _); refine wpList_store_row rfl 26 (.tmp 2) (.tmp 7) rfl w3.heap.size V3 rfl rfl 26 lz (Whole.new w3 26 lz) (by rw [h6]; exact info_ls) (by rw [h6]; rfl) h6o ?_) | fail)
  rw [← lz_is]
  have HK := Lib.hid (lkit_new HK.out HA.out)
  clear HA h6 h6o
  generalize (w3.alloc (.cells lz 26)).setRow w3.heap.size V3 = w4 at *
  go_wp2_with (first | ((with_reducible show wpList _ _ _ ((⟨some 8, Op.load 24 (.tmp 1), _, _, _, _⟩ : Oper) :: _) _ _); refine wpList_load_rowG (by rfl) _ (.tmp 1) rfl w1.heap.size rfl 24 C (0, 0) _ HK.out.pl.1 Try.underlying24 rfl (by rw [h11]; exact info11) ?_) | ((with_reducible show wpList _ _ _ ((⟨some 9, Op.load 26 (.tmp 2), _, _, _, _⟩ : Oper) :: _) _ _); refine wpList_load_rowG (by rfl) _ (.tmp 2) rfl w3.heap.size rfl 26 V3 (0, 0) _ (HK.out.bs (w3.heap.size, V3, l0) (by simp)).1 Try.underlying26 rfl (by rw [(HK.out.bs (w3.heap.size, V3, l0) (by simp)).2.size]; exact info_ls) ?_) | fail)
  refine (HG.out.grant HK.out.pl.2 (HK.out.bs (w3.heap.size, V3, l0) (by simp)).2 (show l0.fr.length ≤ 1000 by decide) 1 0 7 (lin_lit (by omega)) (lin_lit (by omega)) (lin_lit (by omega))).mono ?_
  rintro e w5 ⟨V5, rfl, ha, hb⟩
  rw [show Ln.grant P15 l0 1 0 7 = l1 by decide +kernel] at ha
  have HK := Lib.hid (HK.out.on hb)
  clear hb
  have h6 := ha.size
  have h6o := ha.one
  have HA := Lib.hid ha
  clear ha
  go_upto_region 4 with (first | ((with_reducible show wpList _ _ _ ((⟨_, Op.store 26 (.tmp 3) _, _, _, _, _⟩ : Oper) :: _) _ _); refine wpList_store_row rfl 26 (.tmp 3) (.tmp 10) rfl w5.heap.size V5 rfl rfl 26 lz (Whole.new w5 26 lz) (by rw [h6]; exact info_ls) (by rw [h6]; rfl) h6o ?_) | fail)
  rw [← lz_is]
  have HK := Lib.hid (lkit_new HK.out HA.out)
  clear HA h6 h6o
  generalize (w5.alloc (.cells lz 26)).setRow w5.heap.size V5 = w6 at *
  obtain ⟨g1, hg1⟩ : ∃ g, w1.heap.size = g := ⟨_, rfl⟩
  obtain ⟨g3, hg3⟩ : ∃ g, w3.heap.size = g := ⟨_, rfl⟩
  obtain ⟨g5, hg5⟩ : ∃ g, w5.heap.size = g := ⟨_, rfl⟩
  rw [hg1, hg3, hg5] at HK ⊢
  clear hg1 hg3 hg5
  try simp only [Act.put, List.getElem_toArray, List.getElem_cons_zero, List.getElem_cons_succ, List.setIfInBounds_toArray, List.set_cons_zero, List.set_cons_succ]
  go_cut [4] (fun v wx => ∃ g V, v = .pointer (some ⟨g, 0, none⟩) ∧ LKit w wx g1 C P15 [(g, V, l2), (g5, V5, l1), (g3, V3, l0)])
  case first => as_aux_lemma =>
    have z5 : V5.size = 4 := (HK.out.bs (g5, V5, l1) (by simp)).2.size
    have hk0 := HK.out.drew
    refine wp_region_held_drew (S := fun wq => LKit w wq g1 C P15 [(g5, V5, l1), (g3, V3, l0)]) (by kernel_rfl) hk0 (fun hHeld => ?_)
    have HK := Lib.hid hk0
    generalize w6.drew = wd at *
    clear hk0
    refine wpAnyH_take (i := 0) (v := .agg C) rfl (by kernel_rfl) (by kernel_rfl) (by kernel_rfl) (fun _ _ _ h => h) (yields_lp (by rfl) _ rfl g1 rfl C h11 (fun wq hSw => hSw.pl.1)) (by assumption) ?_
    try simp only [Act.put, List.getElem_toArray, List.getElem_cons_zero, List.getElem_cons_succ, List.setIfInBounds_toArray, List.set_cons_zero, List.set_cons_succ]
    refine wpAnyH_take (i := 1) (v := .agg C) rfl (by kernel_rfl) (by kernel_rfl) (by kernel_rfl) (fun _ _ _ h => h) (yields_lp (by rfl) _ rfl g1 rfl C h11 (fun wq hSw => hSw.pl.1)) (by assumption) ?_
    try simp only [Act.put, List.getElem_toArray, List.getElem_cons_zero, List.getElem_cons_succ, List.setIfInBounds_toArray, List.set_cons_zero, List.set_cons_succ]
    refine wpAnyH_take (i := 2) (v := .agg V5) rfl (by kernel_rfl) (by kernel_rfl) (by kernel_rfl) (fun _ _ _ h => h) (yields_lb (by rfl) _ rfl g5 rfl V5 z5 (fun wq hSw => (hSw.bs (g5, V5, l1) (by simp)).1)) (by assumption) ?_
    try simp only [Act.put, List.getElem_toArray, List.getElem_cons_zero, List.getElem_cons_succ, List.setIfInBounds_toArray, List.set_cons_zero, List.set_cons_succ]
    refine wpAnyH_ready (rs := [3, 5]) (by kernel_rfl) (by simp) (AllReadyH.cons rfl (fun K hK => ?_) (AllReadyH.cons rfl (fun K hK => ?_) AllReadyH.nil))
    · skip
      try simp only [List.getElem_toArray, List.getElem_cons_zero, List.getElem_cons_succ]
      go_simp
      refine (HG.out.grant HK.out.pl.2 (HK.out.bs (g5, V5, l1) (by simp)).2 (show l1.fr.length ≤ 1000 by decide) 1 0 7 (lin_lit (by omega)) (lin_lit (by omega)) (lin_lit (by omega))).mono ?_
      rintro e wa ⟨Va, rfl, ha, hb⟩
      rw [show Ln.grant P15 l1 1 0 7 = l1 by decide +kernel] at ha
      have HK := Lib.hid (HK.out.on hb)
      have HA := Lib.hid ha
      clear ha hb hHeld
      have hk := HK.out
      go_wp2_with fail
      refine hK.out _ _ hk (fun hHeld => ?_)
      clear hK K hHeld
      try simp only [Act.put, List.getElem_toArray, List.getElem_cons_zero, List.getElem_cons_succ, List.setIfInBounds_toArray, List.set_cons_zero, List.set_cons_succ]
      have hHeld := hk
      clear hk
      refine wpAnyH_ready (rs := [4, 5]) (by kernel_rfl) (by simp) (AllReadyH.cons rfl (fun K hK => ?_) (AllReadyH.cons rfl (fun K hK => ?_) AllReadyH.nil))
      · skip
        try simp only [List.getElem_toArray, List.getElem_cons_zero, List.getElem_cons_succ]
        go_simp
        refine (HG.out.grant HK.out.pl.2 HA.out (show l1.fr.length ≤ 1000 by decide) 2 0 7 (lin_lit (by omega)) (lin_lit (by omega)) (lin_lit (by omega))).mono ?_
        rintro e wb ⟨Vb, rfl, ha, hb⟩
        rw [show Ln.grant P15 l1 2 0 7 = l2 by decide +kernel] at ha
        have HK := Lib.hid (HK.out.on hb)
        have HB := Lib.hid ha
        clear ha hb hHeld HA
        have hk := HK.out
        go_wp2_with fail
        refine hK.out _ _ hk (fun hHeld => ?_)
        clear hK K hHeld
        try simp only [Act.put, List.getElem_toArray, List.getElem_cons_zero, List.getElem_cons_succ, List.setIfInBounds_toArray, List.set_cons_zero, List.set_cons_succ]
        have hHeld := hk
        clear hk
        refine wpAnyH_ready (rs := [5]) (by kernel_rfl) (by simp) (AllReadyH.cons rfl (fun K hK => ?_) AllReadyH.nil)
        try simp only [List.getElem_toArray, List.getElem_cons_zero, List.getElem_cons_succ]
        go_simp
        have HZ := Lib.hid (Slt.new HK.out)
        have hba := below_alloc wb (.cells lz 26)
        have HK := Lib.hid (HK.out.on hba)
        have hk := HK.out
        refine hK.out _ _ hk (fun hHeld => ?_)
        clear hK K hHeld
        try simp only [Act.put, List.getElem_toArray, List.getElem_cons_zero, List.getElem_cons_succ, List.setIfInBounds_toArray, List.set_cons_zero, List.set_cons_succ]
        have hHeld := hk
        clear hk
        rw [← lz_is]
        generalize wb.alloc (.cells lz 26) = wc at *
        have HB := Lib.hid (HB.out.on hba)
        refine wpAnyH_ready (rs := [6]) (by kernel_rfl) (by simp) (AllReadyH.cons rfl (fun K hK => ?_) AllReadyH.nil)
        try simp only [List.getElem_toArray, List.getElem_cons_zero, List.getElem_cons_succ]
        refine if_wanted (by rfl) ?_
        have h6 := HB.out.size
        refine wp_store_row _ _ _ rfl wb.heap.size Vb rfl rfl 26 _ HZ.out.box (by rw [h6]; exact info_ls) (by rw [h6]; rfl) HB.out.one ?_
        have HK := Lib.hid (lkit_late HZ.out.kit HZ.out.below HZ.out.far HZ.out.box HB.out (by decide))
        have hk := HK.out.drop
        refine hK.out _ _ hk (fun hHeld => ?_)
        clear hK K hHeld
        try simp only [Act.put, List.getElem_toArray, List.getElem_cons_zero, List.getElem_cons_succ, List.setIfInBounds_toArray, List.set_cons_zero, List.set_cons_succ]
        refine wpAnyH_done (by kernel_rfl) ?_ _
        go_wp2
        go_meet
        case rel => exact ⟨_, _, rfl, HK.out⟩
      · skip
        try simp only [List.getElem_toArray, List.getElem_cons_zero, List.getElem_cons_succ]
        go_simp
        have HZ := Lib.hid (Slt.new HK.out)
        have hba := below_alloc wa (.cells lz 26)
        have HK := Lib.hid (HK.out.on hba)
        have hk := HK.out
        refine hK.out _ _ hk (fun hHeld => ?_)
        clear hK K hHeld
        try simp only [Act.put, List.getElem_toArray, List.getElem_cons_zero, List.getElem_cons_succ, List.setIfInBounds_toArray, List.set_cons_zero, List.set_cons_succ]
        have hHeld := hk
        clear hk
        rw [← lz_is]
        generalize wa.alloc (.cells lz 26) = wb at *
        have HA := Lib.hid (HA.out.on hba)
        clear hba
        refine wpAnyH_ready (rs := [4]) (by kernel_rfl) (by simp) (AllReadyH.cons rfl (fun K hK => ?_) AllReadyH.nil)
        try simp only [List.getElem_toArray, List.getElem_cons_zero, List.getElem_cons_succ]
        go_simp
        refine (HG.out.grant HK.out.pl.2 HA.out (show l1.fr.length ≤ 1000 by decide) 2 0 7 (lin_lit (by omega)) (lin_lit (by omega)) (lin_lit (by omega))).mono ?_
        rintro e wc ⟨Vb, rfl, ha, hb⟩
        rw [show Ln.grant P15 l1 2 0 7 = l2 by decide +kernel] at ha
        have HK := Lib.hid (HK.out.on hb)
        have HZ := Lib.hid (HZ.out.on hb)
        have HB := Lib.hid ha
        clear ha hb hHeld HA
        have hk := HK.out
        go_wp2_with fail
        refine hK.out _ _ hk (fun hHeld => ?_)
        clear hK K hHeld
        try simp only [Act.put, List.getElem_toArray, List.getElem_cons_zero, List.getElem_cons_succ, List.setIfInBounds_toArray, List.set_cons_zero, List.set_cons_succ]
        have hHeld := hk
        clear hk
        refine wpAnyH_ready (rs := [6]) (by kernel_rfl) (by simp) (AllReadyH.cons rfl (fun K hK => ?_) AllReadyH.nil)
        try simp only [List.getElem_toArray, List.getElem_cons_zero, List.getElem_cons_succ]
        refine if_wanted (by rfl) ?_
        have h6 := HB.out.size
        refine wp_store_row _ _ _ rfl wa.heap.size Vb rfl rfl 26 _ HZ.out.box (by rw [h6]; exact info_ls) (by rw [h6]; rfl) HB.out.one ?_
        have HK := Lib.hid (lkit_late HZ.out.kit HZ.out.below HZ.out.far HZ.out.box HB.out (by decide))
        have hk := HK.out.drop
        refine hK.out _ _ hk (fun hHeld => ?_)
        clear hK K hHeld
        try simp only [Act.put, List.getElem_toArray, List.getElem_cons_zero, List.getElem_cons_succ, List.setIfInBounds_toArray, List.set_cons_zero, List.set_cons_succ]
        refine wpAnyH_done (by kernel_rfl) ?_ _
        go_wp2
        go_meet
        case rel => exact ⟨_, _, rfl, HK.out⟩
    · skip
      try simp only [List.getElem_toArray, List.getElem_cons_zero, List.getElem_cons_succ]
      go_simp
      have HZ := Lib.hid (Slt.new HK.out)
      have hba := below_alloc wd (.cells lz 26)
      have HK := Lib.hid (HK.out.on hba)
      have hk := HK.out
      refine hK.out _ _ hk (fun hHeld => ?_)
      clear hK K hHeld
      try simp only [Act.put, List.getElem_toArray, List.getElem_cons_zero, List.getElem_cons_succ, List.setIfInBounds_toArray, List.set_cons_zero, List.set_cons_succ]
      have hHeld := hk
      clear hk
      rw [← lz_is]
      generalize wd.alloc (.cells lz 26) = wa at *
      clear hba
      refine wpAnyH_ready (rs := [3]) (by kernel_rfl) (by simp) (AllReadyH.cons rfl (fun K hK => ?_) AllReadyH.nil)
      try simp only [List.getElem_toArray, List.getElem_cons_zero, List.getElem_cons_succ]
      go_simp
      refine (HG.out.grant HK.out.pl.2 (HK.out.bs (g5, V5, l1) (by simp)).2 (show l1.fr.length ≤ 1000 by decide) 1 0 7 (lin_lit (by omega)) (lin_lit (by omega)) (lin_lit (by omega))).mono ?_
      rintro e wb ⟨Va, rfl, ha, hb⟩
      rw [show Ln.grant P15 l1 1 0 7 = l1 by decide +kernel] at ha
      have HK := Lib.hid (HK.out.on hb)
      have HZ := Lib.hid (HZ.out.on hb)
      have HA := Lib.hid ha
      clear ha hb hHeld
      have hk := HK.out
      go_wp2_with fail
      refine hK.out _ _ hk (fun hHeld => ?_)
      clear hK K hHeld
      try simp only [Act.put, List.getElem_toArray, List.getElem_cons_zero, List.getElem_cons_succ, List.setIfInBounds_toArray, List.set_cons_zero, List.set_cons_succ]
      have hHeld := hk
      clear hk
      refine wpAnyH_ready (rs := [4]) (by kernel_rfl) (by simp) (AllReadyH.cons rfl (fun K hK => ?_) AllReadyH.nil)
      try simp only [List.getElem_toArray, List.getElem_cons_zero, List.getElem_cons_succ]
      go_simp
      refine (HG.out.grant HK.out.pl.2 HA.out (show l1.fr.length ≤ 1000 by decide) 2 0 7 (lin_lit (by omega)) (lin_lit (by omega)) (lin_lit (by omega))).mono ?_
      rintro e wc ⟨Vb, rfl, ha, hb⟩
      rw [show Ln.grant P15 l1 2 0 7 = l2 by decide +kernel] at ha
      have HK := Lib.hid (HK.out.on hb)
      have HZ := Lib.hid (HZ.out.on hb)
      have HB := Lib.hid ha
      clear ha hb hHeld HA
      have hk := HK.out
      go_wp2_with fail
      refine hK.out _ _ hk (fun hHeld => ?_)
      clear hK K hHeld
      try simp only [Act.put, List.getElem_toArray, List.getElem_cons_zero, List.getElem_cons_succ, List.setIfInBounds_toArray, List.set_cons_zero, List.set_cons_succ]
      have hHeld := hk
      clear hk
      refine wpAnyH_ready (rs := [6]) (by kernel_rfl) (by simp) (AllReadyH.cons rfl (fun K hK => ?_) AllReadyH.nil)
      try simp only [List.getElem_toArray, List.getElem_cons_zero, List.getElem_cons_succ]
      refine if_wanted (by rfl) ?_
      have h6 := HB.out.size
      refine wp_store_row _ _ _ rfl wd.heap.size Vb rfl rfl 26 _ HZ.out.box (by rw [h6]; exact info_ls) (by rw [h6]; rfl) HB.out.one ?_
      have HK := Lib.hid (lkit_late HZ.out.kit HZ.out.below HZ.out.far HZ.out.box HB.out (by decide))
      have hk := HK.out.drop
      refine hK.out _ _ hk (fun hHeld => ?_)
      clear hK K hHeld
      try simp only [Act.put, List.getElem_toArray, List.getElem_cons_zero, List.getElem_cons_succ, List.setIfInBounds_toArray, List.set_cons_zero, List.set_cons_succ]
      refine wpAnyH_done (by kernel_rfl) ?_ _
      go_wp2
      go_meet
      case rel => exact ⟨_, _, rfl, HK.out⟩
  obtain ⟨g2, V2, rfl, hk⟩ := hcut
  have HK := Lib.hid hk
  clear hk
  go_wp2_with (first | ((with_reducible show wpList _ _ _ ((⟨some 16, Op.load 24 (.tmp 1), _, _, _, _⟩ : Oper) :: _) _ _); refine wpList_load_rowG (by rfl) _ (.tmp 1) rfl g1 rfl 24 C (0, 0) _ HK.out.pl.1 Try.underlying24 rfl (by rw [h11]; exact info11) ?_) | ((with_reducible show wpList _ _ _ ((⟨some 17, Op.load 26 (.tmp 3), _, _, _, _⟩ : Oper) :: _) _ _); refine wpList_load_rowG (by rfl) _ (.tmp 3) rfl g5 rfl 26 V5 (0, 0) _ (HK.out.bs (g5, V5, l1) (by simp)).1 Try.underlying26 rfl (by rw [(HK.out.bs (g5, V5, l1) (by simp)).2.size]; exact info_ls) ?_) | fail)
  refine (HG.out.grant HK.out.pl.2 (HK.out.bs (g5, V5, l1) (by simp)).2 (show l1.fr.length ≤ 1000 by decide) 2 0 8 (lin_lit (by omega)) (lin_lit (by omega)) (lin_lit (by omega))).mono ?_
  rintro e w8 ⟨V8, rfl, ha, hb⟩
  rw [show Ln.grant P15 l1 2 0 8 = l1 by decide +kernel] at ha
  have HK := Lib.hid (HK.out.on hb)
  clear hb
  have h6 := ha.size
  have h6o := ha.one
  have HA := Lib.hid ha
  clear ha
  go_upto_region 6 with (first | ((with_reducible show wpList _ _ _ ((⟨_, Op.store 26 (.tmp 5) _, _, _, _, _⟩ : Oper) :: _) _ _); refine wpList_store_row rfl 26 (.tmp 5) (.tmp 18) rfl w8.heap.size V8 rfl rfl 26 lz (Whole.new w8 26 lz) (by rw [h6]; exact info_ls) (by rw [h6]; rfl) h6o ?_) | fail)
  rw [← lz_is]
  have HK := Lib.hid (lkit_new HK.out HA.out)
  clear HA h6 h6o
  generalize (w8.alloc (.cells lz 26)).setRow w8.heap.size V8 = w9 at *
  obtain ⟨g8, hg8⟩ : ∃ g, w8.heap.size = g := ⟨_, rfl⟩
  rw [hg8] at HK ⊢
  clear hg8
  go_step
  show wpList _ _ _ (_ :: _ :: _ :: _ :: _ :: _ :: _ :: _ :: _ :: _ :: _ :: _ :: _ :: _ :: _ :: _ :: _ :: _ :: _ :: _ :: _ :: _ :: _ :: _ :: _ :: _ :: _ :: _ :: _ :: _ :: _ :: _ :: _ :: _ :: _ :: _ :: _ :: _ :: _ :: _ :: _ :: _ :: _ :: _ :: _ :: _ :: _ :: _ :: _ :: _ :: _ :: _ :: _ :: _ :: _ :: _ :: _ :: _ :: _ :: _ :: _ :: _ :: _ :: _ :: _ :: []) _ _
  go_wp2_with (first | ((with_reducible show wpList _ _ _ ((⟨some 19, Op.load 24 (.tmp 1), _, _, _, _⟩ : Oper) :: _) _ _); refine wpList_load_rowG (by rfl) _ (.tmp 1) rfl g1 rfl 24 C (0, 0) _ HK.out.pl.1 Try.underlying24 rfl (by rw [h11]; exact info11) ?_) | ((with_reducible show wpList _ _ _ ((⟨some 20, Op.load 26 (.tmp 3), _, _, _, _⟩ : Oper) :: _) _ _); refine wpList_load_rowG (by rfl) _ (.tmp 3) rfl g5 rfl 26 V5 (0, 0) _ (HK.out.bs (g5, V5, l1) (by simp)).1 Try.underlying26 rfl (by rw [(HK.out.bs (g5, V5, l1) (by simp)).2.size]; exact info_ls) ?_) | fail)
  refine (HG.out.held HK.out.pl.2 (HK.out.bs (g5, V5, l1) (by simp)).2 (show l1.fr.length ≤ 1000 by decide) 6 (lin_lit (by omega))).mono ?_
  rintro e x0 ⟨rfl, hb⟩
  rw [show Ln.held P15 l1 6 = false by decide +kernel]
  have HK := Lib.hid (HK.out.on hb)
  clear hb
  go_wp2_with (first | ((with_reducible show wpList _ _ _ ((⟨some 24, Op.load 24 (.tmp 1), _, _, _, _⟩ : Oper) :: _) _ _); refine wpList_load_rowG (by rfl) _ (.tmp 1) rfl g1 rfl 24 C (0, 0) _ HK.out.pl.1 Try.underlying24 rfl (by rw [h11]; exact info11) ?_) | ((with_reducible show wpList _ _ _ ((⟨some 25, Op.load 26 (.tmp 5), _, _, _, _⟩ : Oper) :: _) _ _); refine wpList_load_rowG (by rfl) _ (.tmp 5) rfl g8 rfl 26 V8 (0, 0) _ (HK.out.bs (g8, V8, l1) (by simp)).1 Try.underlying26 rfl (by rw [(HK.out.bs (g8, V8, l1) (by simp)).2.size]; exact info_ls) ?_) | fail)
  refine (HG.out.held HK.out.pl.2 (HK.out.bs (g8, V8, l1) (by simp)).2 (show l1.fr.length ≤ 1000 by decide) 6 (lin_lit (by omega))).mono ?_
  rintro e x1 ⟨rfl, hb⟩
  rw [show Ln.held P15 l1 6 = false by decide +kernel]
  have HK := Lib.hid (HK.out.on hb)
  clear hb
  go_wp2_with (first | ((with_reducible show wpList _ _ _ ((⟨some 30, Op.load 24 (.tmp 1), _, _, _, _⟩ : Oper) :: _) _ _); refine wpList_load_rowG (by rfl) _ (.tmp 1) rfl g1 rfl 24 C (0, 0) _ HK.out.pl.1 Try.underlying24 rfl (by rw [h11]; exact info11) ?_) | ((with_reducible show wpList _ _ _ ((⟨some 31, Op.load 26 (.tmp 4), _, _, _, _⟩ : Oper) :: _) _ _); refine wpList_load_rowG (by rfl) _ (.tmp 4) rfl g2 rfl 26 V2 (0, 0) _ (HK.out.bs (g2, V2, l2) (by simp)).1 Try.underlying26 rfl (by rw [(HK.out.bs (g2, V2, l2) (by simp)).2.size]; exact info_ls) ?_) | fail)
  refine (HG.out.held HK.out.pl.2 (HK.out.bs (g2, V2, l2) (by simp)).2 (show l2.fr.length ≤ 1000 by decide) 10004 (lin_lit (by omega))).mono ?_
  rintro e x2 ⟨rfl, hb⟩
  rw [show Ln.held P15 l2 10004 = true by decide +kernel]
  have HK := Lib.hid (HK.out.on hb)
  clear hb
  go_wp2_with (first | ((with_reducible show wpList _ _ _ ((⟨some 35, Op.load 24 (.tmp 1), _, _, _, _⟩ : Oper) :: _) _ _); refine wpList_load_rowG (by rfl) _ (.tmp 1) rfl g1 rfl 24 C (0, 0) _ HK.out.pl.1 Try.underlying24 rfl (by rw [h11]; exact info11) ?_) | ((with_reducible show wpList _ _ _ ((⟨some 36, Op.load 26 (.tmp 4), _, _, _, _⟩ : Oper) :: _) _ _); refine wpList_load_rowG (by rfl) _ (.tmp 4) rfl g2 rfl 26 V2 (0, 0) _ (HK.out.bs (g2, V2, l2) (by simp)).1 Try.underlying26 rfl (by rw [(HK.out.bs (g2, V2, l2) (by simp)).2.size]; exact info_ls) ?_) | fail)
  refine (HG.out.held HK.out.pl.2 (HK.out.bs (g2, V2, l2) (by simp)).2 (show l2.fr.length ≤ 1000 by decide) 10005 (lin_lit (by omega))).mono ?_
  rintro e x3 ⟨rfl, hb⟩
  rw [show Ln.held P15 l2 10005 = false by decide +kernel]
  have HK := Lib.hid (HK.out.on hb)
  clear hb
  go_wp2_with (first | ((with_reducible show wpList _ _ _ ((⟨some 41, Op.load 24 (.tmp 1), _, _, _, _⟩ : Oper) :: _) _ _); refine wpList_load_rowG (by rfl) _ (.tmp 1) rfl g1 rfl 24 C (0, 0) _ HK.out.pl.1 Try.underlying24 rfl (by rw [h11]; exact info11) ?_) | ((with_reducible show wpList _ _ _ ((⟨some 42, Op.load 26 (.tmp 4), _, _, _, _⟩ : Oper) :: _) _ _); refine wpList_load_rowG (by rfl) _ (.tmp 4) rfl g2 rfl 26 V2 (0, 0) _ (HK.out.bs (g2, V2, l2) (by simp)).1 Try.underlying26 rfl (by rw [(HK.out.bs (g2, V2, l2) (by simp)).2.size]; exact info_ls) ?_) | fail)
  refine (HG.out.fits HK.out.pl.2 (HK.out.bs (g2, V2, l2) (by simp)).2 (show l2.fr.length ≤ 1000 by decide) 7904 (lin_lit (by omega))).mono ?_
  rintro e x4 ⟨rfl, hb⟩
  rw [show Ln.fits P15 l2 7904 = true by decide +kernel]
  have HK := Lib.hid (HK.out.on hb)
  clear hb
  go_wp2_with (first | ((with_reducible show wpList _ _ _ ((⟨some 46, Op.load 24 (.tmp 1), _, _, _, _⟩ : Oper) :: _) _ _); refine wpList_load_rowG (by rfl) _ (.tmp 1) rfl g1 rfl 24 C (0, 0) _ HK.out.pl.1 Try.underlying24 rfl (by rw [h11]; exact info11) ?_) | ((with_reducible show wpList _ _ _ ((⟨some 47, Op.load 26 (.tmp 4), _, _, _, _⟩ : Oper) :: _) _ _); refine wpList_load_rowG (by rfl) _ (.tmp 4) rfl g2 rfl 26 V2 (0, 0) _ (HK.out.bs (g2, V2, l2) (by simp)).1 Try.underlying26 rfl (by rw [(HK.out.bs (g2, V2, l2) (by simp)).2.size]; exact info_ls) ?_) | fail)
  refine (HG.out.fits HK.out.pl.2 (HK.out.bs (g2, V2, l2) (by simp)).2 (show l2.fr.length ≤ 1000 by decide) 7905 (lin_lit (by omega))).mono ?_
  rintro e x5 ⟨rfl, hb⟩
  rw [show Ln.fits P15 l2 7905 = false by decide +kernel]
  have HK := Lib.hid (HK.out.on hb)
  clear hb
  go_wp2_with (first | ((with_reducible show wpList _ _ _ ((⟨some 52, Op.load 24 (.tmp 1), _, _, _, _⟩ : Oper) :: _) _ _); refine wpList_load_rowG (by rfl) _ (.tmp 1) rfl g1 rfl 24 C (0, 0) _ HK.out.pl.1 Try.underlying24 rfl (by rw [h11]; exact info11) ?_) | ((with_reducible show wpList _ _ _ ((⟨some 53, Op.load 26 (.tmp 4), _, _, _, _⟩ : Oper) :: _) _ _); refine wpList_load_rowG (by rfl) _ (.tmp 4) rfl g2 rfl 26 V2 (0, 0) _ (HK.out.bs (g2, V2, l2) (by simp)).1 Try.underlying26 rfl (by rw [(HK.out.bs (g2, V2, l2) (by simp)).2.size]; exact info_ls) ?_) | fail)
  refine (HG.out.late HK.out.pl.2 (HK.out.bs (g2, V2, l2) (by simp)).2 (show l2.fr.length ≤ 1000 by decide) 8905 (lin_lit (by omega))).mono ?_
  rintro e x6 ⟨rfl, hb⟩
  rw [show Ln.late P15 l2 8905 = true by decide +kernel]
  have HK := Lib.hid (HK.out.on hb)
  clear hb
  go_wp2_with (first | ((with_reducible show wpList _ _ _ ((⟨some 57, Op.load 24 (.tmp 1), _, _, _, _⟩ : Oper) :: _) _ _); refine wpList_load_rowG (by rfl) _ (.tmp 1) rfl g1 rfl 24 C (0, 0) _ HK.out.pl.1 Try.underlying24 rfl (by rw [h11]; exact info11) ?_) | ((with_reducible show wpList _ _ _ ((⟨some 58, Op.load 26 (.tmp 4), _, _, _, _⟩ : Oper) :: _) _ _); refine wpList_load_rowG (by rfl) _ (.tmp 4) rfl g2 rfl 26 V2 (0, 0) _ (HK.out.bs (g2, V2, l2) (by simp)).1 Try.underlying26 rfl (by rw [(HK.out.bs (g2, V2, l2) (by simp)).2.size]; exact info_ls) ?_) | fail)
  refine (HG.out.late HK.out.pl.2 (HK.out.bs (g2, V2, l2) (by simp)).2 (show l2.fr.length ≤ 1000 by decide) 8904 (lin_lit (by omega))).mono ?_
  rintro e x7 ⟨rfl, hb⟩
  rw [show Ln.late P15 l2 8904 = false by decide +kernel]
  have HK := Lib.hid (HK.out.on hb)
  clear hb
  go_wp2_with (first | ((with_reducible show wpList _ _ _ ((⟨some 63, Op.load 24 (.tmp 1), _, _, _, _⟩ : Oper) :: _) _ _); refine wpList_load_rowG (by rfl) _ (.tmp 1) rfl g1 rfl 24 C (0, 0) _ HK.out.pl.1 Try.underlying24 rfl (by rw [h11]; exact info11) ?_) | fail)
  refine (HG.out.slot HK.out.pl.2 2 5 (lin_lit (by omega)) (lin_lit (by omega))).mono ?_
  rintro e x8 ⟨rfl, hb⟩
  rw [show Ln.slot P15 2 5 = 0 by decide +kernel]
  have HK := Lib.hid (HK.out.on hb)
  clear hb
  obtain ⟨ad3, n3, c3, e3, hr3, _⟩ := (HK.out.bs (g3, V3, l0) (by simp)).2
  obtain ⟨ad2, n2, c2, e2, hr2, _⟩ := (HK.out.bs (g2, V2, l2) (by simp)).2
  dsimp only at e3 hr3 e2 hr2
  have hn2 : n2 = 2 := hr2.1.symm
  subst hn2
  have k1 : x8.cell? ⟨g3, 1, none⟩ = some (.int .i64 7) := by
    have := (HK.out.bs (g3, V3, l0) (by simp)).1.cell 1
    dsimp only at this
    rw [e3] at this
    exact this
  have k2 : x8.cell? ⟨g3, 2, none⟩ = some (.int .i64 5) := by
    have := (HK.out.bs (g3, V3, l0) (by simp)).1.cell 2
    dsimp only at this
    rw [e3] at this
    exact this
  have k3 : x8.cell? ⟨g2, 3, none⟩ = some (.slice ad2 2 c2) := by
    have := (HK.out.bs (g2, V2, l2) (by simp)).1.cell 3
    dsimp only at this
    rw [e2] at this
    exact this
  clear hr3 hr2 e3 e2
  go_wp2
  go_ret
  exact ⟨rfl, HK.out.below⟩
end Go.Proofs.Ytegdopbiiddamaa
