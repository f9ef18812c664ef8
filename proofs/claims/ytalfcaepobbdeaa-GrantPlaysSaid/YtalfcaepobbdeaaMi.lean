/-
  What the package's functions are to answer (Grn); boxes that a walk keeps; the walk of the statements' awake.
-/
import Derived.Test.YtalfcaepobbdeaaMh
namespace Go.Proofs.Ytalfcaepobbdeaa
open Go.RowKit Go.Great
set_option linter.unusedVariables false
set_option linter.unusedSimpArgs false
set_option maxRecDepth 20000
/-- What the package's functions are to answer. -/
structure Grn : Prop where
  new : ∀ {w : World} {S : Nat → Prop} {C : Array Value} {p : Dr.P}, Cc w S C p → ∀ (now : Int), In64 now → Calls Try.prog 8 #[.agg C, .int .i64 now] w (AccQ w (Gt.new p now))
  ask : ∀ {w : World} {S : Nat → Prop} {C V : Array Value} {p : Dr.P} {a : Gt.A}, Cc w S C p → Acc w V a → ∀ (s node nonce now : Int), In64 s → In64 node → In64 nonce → In64 now →
    Calls Try.prog 10 #[.agg C, .agg V, .int .i64 s, .int .i64 node, .int .i64 nonce, .int .i64 now] w (AccB w (Gt.ask p a s node nonce now).1 (Gt.ask p a s node nonce now).2)
  free : ∀ {w : World} {S : Nat → Prop} {C V : Array Value} {p : Dr.P} {a : Gt.A}, Cc w S C p → Acc w V a → ∀ (s node nonce : Int), In64 s → In64 node → In64 nonce →
    Calls Try.prog 12 #[.agg C, .agg V, .int .i64 s, .int .i64 node, .int .i64 nonce] w (AccQ w (Gt.free p a s node nonce))
  holder : ∀ {w : World} {S : Nat → Prop} {C V : Array Value} {p : Dr.P} {a : Gt.A}, Cc w S C p → Acc w V a → ∀ (s now : Int), In64 s → In64 now →
    Calls Try.prog 16 #[.agg C, .agg V, .int .i64 s, .int .i64 now] w fun e w' => e = .returned (.int .i64 (Gt.holder p a s now)) ∧ Below w.heap.size w w'
/-- Boxes that are kept: a plan, and acceptors. -/
structure Kit (w0 w : World) (g : Nat) (C : Array Value) (p : Dr.P) (L : List (Nat × Array Value × Gt.A)) : Prop where
  pl : Pl w g C p
  bs : ∀ q ∈ L, Ab w q.1 q.2.1 q.2.2
  below : Below w0.heap.size w0 w
theorem Kit.on {w0 w w' : World} {g : Nat} {C : Array Value} {p : Dr.P} {L : List (Nat × Array Value × Gt.A)} (h : Kit w0 w g C p L) (hb : Below w.heap.size w w') : Kit w0 w' g C p L := ⟨h.pl.on hb, fun q hq => (h.bs q hq).on hb, h.below.trans (hb.mono h.below.size)⟩
theorem kit_new {w0 w : World} {g : Nat} {C V : Array Value} {p : Dr.P} {a : Gt.A} {L : List (Nat × Array Value × Gt.A)} (h : Kit w0 w g C p L) (ha : Acc w V a) : Kit w0 ((w.alloc (.cells az 30)).setRow w.heap.size V) g C p ((w.heap.size, V, a) :: L) := by
  have hb : Below w.heap.size w ((w.alloc (.cells az 30)).setRow w.heap.size V) := below_row (below_alloc w _) (Nat.le_refl _) _
  have h2 := h.on hb
  refine ⟨h2.pl, fun q hq => ?_, h2.below⟩
  rcases List.mem_cons.1 hq with rfl | hq
  · exact ⟨(Whole.new w 30 az).row V, ha.on hb⟩
  · exact h2.bs q hq
/-- At the head of all statements. -/
def Awake : Prop := ∀ w : World, Calls Try.prog 6 #[] w fun e w' => e = .returned (.bool true) ∧ Below w.heap.size w w'
theorem in_lit {x : Int} (h : -1000000 ≤ x ∧ x ≤ 1000000) : In64 x := by constructor <;> omega
def a0 : Gt.A := ⟨0, [Gt.none]⟩
def a1 : Gt.A := ⟨0, [⟨1, 1, 20000⟩]⟩
def a2 : Gt.A := ⟨0, [⟨2, 1, 40000⟩]⟩
set_option maxHeartbeats 8000000 in
theorem awake_walk (hg : Grn) : Awake := by
  intro w
  have HG := Lib.hid hg
  clear hg
  go_enter Try.func6, Try.ntmps6
  go_wp2_with fail
  refine (plan_any w).mono ?_
  rintro e w1 ⟨C, rfl, hC, hb1⟩
  have h11 := hC.size
  have hone := hC.all
  have HC := Lib.hid (And.intro hC hb1)
  clear hC hb1
  go_upto_region 2 with (first | ((with_reducible show wpList _ _ _ ((⟨_, Op.store 24 (.tmp 1) _, _, _, _, _⟩ : Oper) :: _) _ _); refine wpList_store_row rfl 24 (.tmp 1) (.tmp 12) rfl w1.heap.size C rfl rfl 24 pz (Whole.new w1 24 pz) (by rw [h11]; exact info11) (by rw [h11]; rfl) hone ?_) | fail)
  rw [← pz_is]
  have HK : Hid (Kit w ((w1.alloc (.cells pz 24)).setRow w1.heap.size C) w1.heap.size C P15 []) := Lib.hid (by
    have hb : Below w1.heap.size w1 ((w1.alloc (.cells pz 24)).setRow w1.heap.size C) := below_row (below_alloc w1 _) (Nat.le_refl _) _
    exact ⟨⟨(Whole.new w1 24 pz).row C, (HC.out.1.below hb (fun b h _ => h))⟩, (fun q hq => by cases hq), HC.out.2.trans (hb.mono HC.out.2.size)⟩)
  clear HC hone
  generalize (w1.alloc (.cells pz 24)).setRow w1.heap.size C = w2 at *
  go_wp2_with (first | ((with_reducible show wpList _ _ _ ((⟨some 13, Op.load 24 (.tmp 1), _, _, _, _⟩ : Oper) :: _) _ _); refine wpList_load_rowG (by rfl) _ (.tmp 1) rfl w1.heap.size rfl 24 C (0, 0) _ HK.out.pl.1 Try.underlying24 rfl (by rw [h11]; exact info11) ?_) | fail)
  refine (HG.out.new HK.out.pl.2 0 (in_lit (by omega))).mono ?_
  rintro e w3 ⟨V3, rfl, ha, hb⟩
  rw [show Gt.new P15 0 = a0 by decide +kernel] at ha
  have HK := Lib.hid (HK.out.on hb)
  clear hb
  have h6 := ha.size
  have h6o := ha.one
  have HA := Lib.hid ha
  clear ha
  go_upto_region 3 with (first | ((with_reducible show wpList _ _ _ ((⟨_, Op.store 30 (.tmp 2) _, _, _, _, _⟩ : Oper) :: _) _ _); refine wpList_store_row rfl 30 (.tmp 2) (.tmp 14) rfl w3.heap.size V3 rfl rfl 30 az (Whole.new w3 30 az) (by rw [h6]; exact info_acc) (by rw [h6]; rfl) h6o ?_) | fail)
  rw [← az_is]
  have HK := Lib.hid (kit_new HK.out HA.out)
  clear HA h6 h6o
  generalize (w3.alloc (.cells az 30)).setRow w3.heap.size V3 = w4 at *
  go_wp2_with (first | ((with_reducible show wpList _ _ _ ((⟨some 16, Op.load 24 (.tmp 1), _, _, _, _⟩ : Oper) :: _) _ _); refine wpList_load_rowG (by rfl) _ (.tmp 1) rfl w1.heap.size rfl 24 C (0, 0) _ HK.out.pl.1 Try.underlying24 rfl (by rw [h11]; exact info11) ?_) | ((with_reducible show wpList _ _ _ ((⟨some 17, Op.load 30 (.tmp 2), _, _, _, _⟩ : Oper) :: _) _ _); refine wpList_load_rowG (by rfl) _ (.tmp 2) rfl w3.heap.size rfl 30 V3 (0, 0) _ (HK.out.bs (w3.heap.size, V3, a0) (by simp)).1 Try.underlying30 rfl (by rw [(HK.out.bs (w3.heap.size, V3, a0) (by simp)).2.size]; exact info_acc) ?_) | fail)
  refine (HG.out.ask HK.out.pl.2 (HK.out.bs (w3.heap.size, V3, a0) (by simp)).2 0 1 1 19999 (in_lit (by omega)) (in_lit (by omega)) (in_lit (by omega)) (in_lit (by omega))).mono ?_
  rintro e w5 ⟨V5, rfl, ha, hb⟩
  rw [show Gt.ask P15 a0 0 1 1 19999 = (a0, false) by decide +kernel] at ha ⊢
  have HK := Lib.hid (HK.out.on hb)
  clear hb
  have h6 := ha.size
  have h6o := ha.one
  have HA := Lib.hid ha
  clear ha
  go_upto_region 4 with (first | ((with_reducible show wpList _ _ _ ((⟨_, Op.store 30 (.tmp 3) _, _, _, _, _⟩ : Oper) :: _) _ _); refine wpList_store_row rfl 30 (.tmp 3) (.tmp 19) rfl w5.heap.size V5 rfl rfl 30 az (Whole.new w5 30 az) (by rw [h6]; exact info_acc) (by rw [h6]; rfl) h6o ?_) | fail)
  rw [← az_is]
  have HK := Lib.hid (kit_new HK.out HA.out)
  clear HA h6 h6o
  generalize (w5.alloc (.cells az 30)).setRow w5.heap.size V5 = w6 at *
  go_wp2_with (first | ((with_reducible show wpList _ _ _ ((⟨some 22, Op.load 24 (.tmp 1), _, _, _, _⟩ : Oper) :: _) _ _); refine wpList_load_rowG (by rfl) _ (.tmp 1) rfl w1.heap.size rfl 24 C (0, 0) _ HK.out.pl.1 Try.underlying24 rfl (by rw [h11]; exact info11) ?_) | ((with_reducible show wpList _ _ _ ((⟨some 23, Op.load 30 (.tmp 2), _, _, _, _⟩ : Oper) :: _) _ _); refine wpList_load_rowG (by rfl) _ (.tmp 2) rfl w3.heap.size rfl 30 V3 (0, 0) _ (HK.out.bs (w3.heap.size, V3, a0) (by simp)).1 Try.underlying30 rfl (by rw [(HK.out.bs (w3.heap.size, V3, a0) (by simp)).2.size]; exact info_acc) ?_) | fail)
  refine (HG.out.ask HK.out.pl.2 (HK.out.bs (w3.heap.size, V3, a0) (by simp)).2 0 1 1 20000 (in_lit (by omega)) (in_lit (by omega)) (in_lit (by omega)) (in_lit (by omega))).mono ?_
  rintro e w7 ⟨V7, rfl, ha, hb⟩
  rw [show Gt.ask P15 a0 0 1 1 20000 = (a1, true) by decide +kernel] at ha ⊢
  have HK := Lib.hid (HK.out.on hb)
  clear hb
  have h6 := ha.size
  have h6o := ha.one
  have HA := Lib.hid ha
  clear ha
  go_upto_region 5 with (first | ((with_reducible show wpList _ _ _ ((⟨_, Op.store 30 (.tmp 5) _, _, _, _, _⟩ : Oper) :: _) _ _); refine wpList_store_row rfl 30 (.tmp 5) (.tmp 25) rfl w7.heap.size V7 rfl rfl 30 az (Whole.new w7 30 az) (by rw [h6]; exact info_acc) (by rw [h6]; rfl) h6o ?_) | fail)
  rw [← az_is]
  have HK := Lib.hid (kit_new HK.out HA.out)
  clear HA h6 h6o
  generalize (w7.alloc (.cells az 30)).setRow w7.heap.size V7 = w8 at *
  go_wp2_with (first | ((with_reducible show wpList _ _ _ ((⟨some 28, Op.load 24 (.tmp 1), _, _, _, _⟩ : Oper) :: _) _ _); refine wpList_load_rowG (by rfl) _ (.tmp 1) rfl w1.heap.size rfl 24 C (0, 0) _ HK.out.pl.1 Try.underlying24 rfl (by rw [h11]; exact info11) ?_) | ((with_reducible show wpList _ _ _ ((⟨some 29, Op.load 30 (.tmp 5), _, _, _, _⟩ : Oper) :: _) _ _); refine wpList_load_rowG (by rfl) _ (.tmp 5) rfl w7.heap.size rfl 30 V7 (0, 0) _ (HK.out.bs (w7.heap.size, V7, a1) (by simp)).1 Try.underlying30 rfl (by rw [(HK.out.bs (w7.heap.size, V7, a1) (by simp)).2.size]; exact info_acc) ?_) | fail)
  refine (HG.out.ask HK.out.pl.2 (HK.out.bs (w7.heap.size, V7, a1) (by simp)).2 0 2 1 30000 (in_lit (by omega)) (in_lit (by omega)) (in_lit (by omega)) (in_lit (by omega))).mono ?_
  rintro e w9 ⟨V9, rfl, ha, hb⟩
  rw [show Gt.ask P15 a1 0 2 1 30000 = (a1, false) by decide +kernel] at ha ⊢
  have HK := Lib.hid (HK.out.on hb)
  clear hb
  have h6 := ha.size
  have h6o := ha.one
  have HA := Lib.hid ha
  clear ha
  go_upto_region 6 with (first | ((with_reducible show wpList _ _ _ ((⟨_, Op.store 30 (.tmp 7) _, _, _, _, _⟩ : Oper) :: _) _ _); refine wpList_store_row rfl 30 (.tmp 7) (.tmp 31) rfl w9.heap.size V9 rfl rfl 30 az (Whole.new w9 30 az) (by rw [h6]; exact info_acc) (by rw [h6]; rfl) h6o ?_) | fail)
  rw [← az_is]
  have HK := Lib.hid (kit_new HK.out HA.out)
  clear HA h6 h6o
  generalize (w9.alloc (.cells az 30)).setRow w9.heap.size V9 = w10 at *
  go_wp2_with (first | ((with_reducible show wpList _ _ _ ((⟨some 34, Op.load 24 (.tmp 1), _, _, _, _⟩ : Oper) :: _) _ _); refine wpList_load_rowG (by rfl) _ (.tmp 1) rfl w1.heap.size rfl 24 C (0, 0) _ HK.out.pl.1 Try.underlying24 rfl (by rw [h11]; exact info11) ?_) | ((with_reducible show wpList _ _ _ ((⟨some 35, Op.load 30 (.tmp 5), _, _, _, _⟩ : Oper) :: _) _ _); refine wpList_load_rowG (by rfl) _ (.tmp 5) rfl w7.heap.size rfl 30 V7 (0, 0) _ (HK.out.bs (w7.heap.size, V7, a1) (by simp)).1 Try.underlying30 rfl (by rw [(HK.out.bs (w7.heap.size, V7, a1) (by simp)).2.size]; exact info_acc) ?_) | fail)
  refine (HG.out.ask HK.out.pl.2 (HK.out.bs (w7.heap.size, V7, a1) (by simp)).2 0 2 1 40000 (in_lit (by omega)) (in_lit (by omega)) (in_lit (by omega)) (in_lit (by omega))).mono ?_
  rintro e w11 ⟨V11, rfl, ha, hb⟩
  rw [show Gt.ask P15 a1 0 2 1 40000 = (a2, true) by decide +kernel] at ha ⊢
  have HK := Lib.hid (HK.out.on hb)
  clear hb
  have h6 := ha.size
  have h6o := ha.one
  have HA := Lib.hid ha
  clear ha
  go_upto_region 7 with (first | ((with_reducible show wpList _ _ _ ((⟨_, Op.store 30 (.tmp 9) _, _, _, _, _⟩ : Oper) :: _) _ _); refine wpList_store_row rfl 30 (.tmp 9) (.tmp 37) rfl w11.heap.size V11 rfl rfl 30 az (Whole.new w11 30 az) (by rw [h6]; exact info_acc) (by rw [h6]; rfl) h6o ?_) | fail)
  rw [← az_is]
  have HK := Lib.hid (kit_new HK.out HA.out)
  clear HA h6 h6o
  generalize (w11.alloc (.cells az 30)).setRow w11.heap.size V11 = w12 at *
  go_wp2_with (first | ((with_reducible show wpList _ _ _ ((⟨some 39, Op.load 24 (.tmp 1), _, _, _, _⟩ : Oper) :: _) _ _); refine wpList_load_rowG (by rfl) _ (.tmp 1) rfl w1.heap.size rfl 24 C (0, 0) _ HK.out.pl.1 Try.underlying24 rfl (by rw [h11]; exact info11) ?_) | ((with_reducible show wpList _ _ _ ((⟨some 40, Op.load 30 (.tmp 5), _, _, _, _⟩ : Oper) :: _) _ _); refine wpList_load_rowG (by rfl) _ (.tmp 5) rfl w7.heap.size rfl 30 V7 (0, 0) _ (HK.out.bs (w7.heap.size, V7, a1) (by simp)).1 Try.underlying30 rfl (by rw [(HK.out.bs (w7.heap.size, V7, a1) (by simp)).2.size]; exact info_acc) ?_) | fail)
  refine (HG.out.free HK.out.pl.2 (HK.out.bs (w7.heap.size, V7, a1) (by simp)).2 0 1 1 (in_lit (by omega)) (in_lit (by omega)) (in_lit (by omega))).mono ?_
  rintro e w13 ⟨V13, rfl, ha, hb⟩
  rw [show Gt.free P15 a1 0 1 1 = a0 by decide +kernel] at ha
  have HK := Lib.hid (HK.out.on hb)
  clear hb
  have h6 := ha.size
  have h6o := ha.one
  have HA := Lib.hid ha
  clear ha
  go_upto_region 8 with (first | ((with_reducible show wpList _ _ _ ((⟨_, Op.store 30 (.tmp 11) _, _, _, _, _⟩ : Oper) :: _) _ _); refine wpList_store_row rfl 30 (.tmp 11) (.tmp 41) rfl w13.heap.size V13 rfl rfl 30 az (Whole.new w13 30 az) (by rw [h6]; exact info_acc) (by rw [h6]; rfl) h6o ?_) | fail)
  rw [← az_is]
  have HK := Lib.hid (kit_new HK.out HA.out)
  clear HA h6 h6o
  generalize (w13.alloc (.cells az 30)).setRow w13.heap.size V13 = w14 at *
  go_wp2_with (first | ((with_reducible show wpList _ _ _ ((⟨some 55, Op.load 24 (.tmp 1), _, _, _, _⟩ : Oper) :: _) _ _); refine wpList_load_rowG (by rfl) _ (.tmp 1) rfl w1.heap.size rfl 24 C (0, 0) _ HK.out.pl.1 Try.underlying24 rfl (by rw [h11]; exact info11) ?_) | ((with_reducible show wpList _ _ _ ((⟨some 56, Op.load 30 (.tmp 5), _, _, _, _⟩ : Oper) :: _) _ _); refine wpList_load_rowG (by rfl) _ (.tmp 5) rfl w7.heap.size rfl 30 V7 (0, 0) _ (HK.out.bs (w7.heap.size, V7, a1) (by simp)).1 Try.underlying30 rfl (by rw [(HK.out.bs (w7.heap.size, V7, a1) (by simp)).2.size]; exact info_acc) ?_) | fail)
  refine (HG.out.holder HK.out.pl.2 (HK.out.bs (w7.heap.size, V7, a1) (by simp)).2 0 30000 (in_lit (by omega)) (in_lit (by omega))).mono ?_
  rintro e w15 ⟨rfl, hb⟩
  rw [show Gt.holder P15 a1 0 30000 = 1 by decide +kernel]
  have HK := Lib.hid (HK.out.on hb)
  clear hb
  go_wp2_with (first | ((with_reducible show wpList _ _ _ ((⟨some 61, Op.load 24 (.tmp 1), _, _, _, _⟩ : Oper) :: _) _ _); refine wpList_load_rowG (by rfl) _ (.tmp 1) rfl w1.heap.size rfl 24 C (0, 0) _ HK.out.pl.1 Try.underlying24 rfl (by rw [h11]; exact info11) ?_) | ((with_reducible show wpList _ _ _ ((⟨some 62, Op.load 30 (.tmp 9), _, _, _, _⟩ : Oper) :: _) _ _); refine wpList_load_rowG (by rfl) _ (.tmp 9) rfl w11.heap.size rfl 30 V11 (0, 0) _ (HK.out.bs (w11.heap.size, V11, a2) (by simp)).1 Try.underlying30 rfl (by rw [(HK.out.bs (w11.heap.size, V11, a2) (by simp)).2.size]; exact info_acc) ?_) | fail)
  refine (HG.out.holder HK.out.pl.2 (HK.out.bs (w11.heap.size, V11, a2) (by simp)).2 0 40000 (in_lit (by omega)) (in_lit (by omega))).mono ?_
  rintro e w16 ⟨rfl, hb⟩
  rw [show Gt.holder P15 a2 0 40000 = 2 by decide +kernel]
  have HK := Lib.hid (HK.out.on hb)
  clear hb
  go_wp2_with (first | ((with_reducible show wpList _ _ _ ((⟨some 67, Op.load 24 (.tmp 1), _, _, _, _⟩ : Oper) :: _) _ _); refine wpList_load_rowG (by rfl) _ (.tmp 1) rfl w1.heap.size rfl 24 C (0, 0) _ HK.out.pl.1 Try.underlying24 rfl (by rw [h11]; exact info11) ?_) | ((with_reducible show wpList _ _ _ ((⟨some 68, Op.load 30 (.tmp 5), _, _, _, _⟩ : Oper) :: _) _ _); refine wpList_load_rowG (by rfl) _ (.tmp 5) rfl w7.heap.size rfl 30 V7 (0, 0) _ (HK.out.bs (w7.heap.size, V7, a1) (by simp)).1 Try.underlying30 rfl (by rw [(HK.out.bs (w7.heap.size, V7, a1) (by simp)).2.size]; exact info_acc) ?_) | fail)
  refine (HG.out.holder HK.out.pl.2 (HK.out.bs (w7.heap.size, V7, a1) (by simp)).2 0 40000 (in_lit (by omega)) (in_lit (by omega))).mono ?_
  rintro e w17 ⟨rfl, hb⟩
  rw [show Gt.holder P15 a1 0 40000 = -1 by decide +kernel]
  have HK := Lib.hid (HK.out.on hb)
  clear hb
  go_wp2_with (first | ((with_reducible show wpList _ _ _ ((⟨some 73, Op.load 24 (.tmp 1), _, _, _, _⟩ : Oper) :: _) _ _); refine wpList_load_rowG (by rfl) _ (.tmp 1) rfl w1.heap.size rfl 24 C (0, 0) _ HK.out.pl.1 Try.underlying24 rfl (by rw [h11]; exact info11) ?_) | ((with_reducible show wpList _ _ _ ((⟨some 74, Op.load 30 (.tmp 11), _, _, _, _⟩ : Oper) :: _) _ _); refine wpList_load_rowG (by rfl) _ (.tmp 11) rfl w13.heap.size rfl 30 V13 (0, 0) _ (HK.out.bs (w13.heap.size, V13, a0) (by simp)).1 Try.underlying30 rfl (by rw [(HK.out.bs (w13.heap.size, V13, a0) (by simp)).2.size]; exact info_acc) ?_) | fail)
  refine (HG.out.holder HK.out.pl.2 (HK.out.bs (w13.heap.size, V13, a0) (by simp)).2 0 30000 (in_lit (by omega)) (in_lit (by omega))).mono ?_
  rintro e w18 ⟨rfl, hb⟩
  rw [show Gt.holder P15 a0 0 30000 = -1 by decide +kernel]
  have HK := Lib.hid (HK.out.on hb)
  clear hb
  obtain ⟨ad, n, c, eV, hrow, _⟩ := (HK.out.bs (w3.heap.size, V3, a0) (by simp)).2
  have hl : n = 1 := hrow.1.symm
  subst hl
  have c1 : w18.cell? ⟨w3.heap.size, 1, none⟩ = some (.slice ad 1 c) := by
    have := (HK.out.bs (w3.heap.size, V3, a0) (by simp)).1.cell 1
    dsimp only at this eV
    rw [eV] at this
    exact this
  clear hrow eV
  go_wp2
  go_ret
  exact ⟨rfl, HK.out.below⟩
end Go.Proofs.Ytalfcaepobbdeaa
