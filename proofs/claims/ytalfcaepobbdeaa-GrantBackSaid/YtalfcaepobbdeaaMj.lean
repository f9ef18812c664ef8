/-
  The walk of GrantBack.
-/
import Derived.Test.YtalfcaepobbdeaaMi
namespace Go.Proofs.Ytalfcaepobbdeaa.Gt
theorem at_put {a : A} {k : Nat} (h : k < a.gs.length) (g : G) : at_ (put a (k : Int) g) (k : Int) = g := by
  unfold at_ put
  simp [h]
theorem may_put {p : Dr.P} {a : A} {s s' : Int} (g : G) : may p (put a s' g) s ↔ may p a s := by
  unfold may
  rw [put_len]
theorem at_new {p : Dr.P} (hok : p.ok) {k : Nat} (hk : (k : Int) < p.slots) (now : Int) : at_ (new p now) (k : Int) = none := by
  unfold at_ new
  rw [if_pos hok]
  have : k < p.slots.toNat := by omega
  simp [this]
theorem may_new {p : Dr.P} (hok : p.ok) {k : Nat} (hk : (k : Int) < p.slots) (now : Int) : may p (new p now) (k : Int) := by
  refine ⟨hok, ?_, by omega, hk⟩
  unfold new
  rw [if_pos hok]
  have := hok.2.1.1
  simp only [List.length_replicate]
  omega
theorem ask_yes {p : Dr.P} {a : A} {s node nonce now : Int} (h : grants p a s node nonce now) : ask p a s node nonce now = (put a s ⟨node, nonce, now⟩, true) := if_pos h
theorem ask_no {p : Dr.P} {a : A} {s node nonce now : Int} (h : ¬ grants p a s node nonce now) : ask p a s node nonce now = (a, false) := if_neg h
/-- What GrantBack says. -/
theorem back {p : Dr.P} (hok : p.ok) {k : Nat} (hk : (k : Int) < p.slots) {one two n now : Int} (h1 : 0 ≤ one ∧ one < p.nodes) (h2 : 0 ≤ two ∧ two < p.nodes) (hn : 0 ≤ n) (hnow : p.grant ≤ now ∧ now < 1099511627776)
    {x y f w : A} (hx : new p 0 = x) (hy : put x (k : Int) ⟨one, n, now⟩ = y) (hf : put y (k : Int) none = f) (hw : put f (k : Int) ⟨two, n, now + 1⟩ = w) :
    ask p x (k : Int) one n now = (y, true) ∧ ask p y (k : Int) two n (now + 1) = (y, false) ∧ free p y (k : Int) one n = f ∧ ask p f (k : Int) two n (now + 1) = (w, true) ∧ free p y (k : Int) one (n + 1) = y ∧ ask p x (k : Int) one n (p.grant - 1) = (x, false) ∧ holder p w (k : Int) (now + 1) = two ∧ holder p y (k : Int) now = one := by
  have hg : 2 ≤ p.grant ∧ p.grant ≤ 1073741824 := by
    obtain ⟨_, _, ⟨r0, r1⟩, ⟨⟨t1, t2⟩, ⟨t3, t4⟩, _, _⟩, g4, _⟩ := hok
    unfold Dr.P.g4 at g4
    refine ⟨?_, t4⟩
    apply Decidable.byContradiction
    intro h
    have hg1 : p.grant = 1 := by omega
    have h5 : p.hold * (1000 + p.rho) ≥ 1 * (1000 + p.rho) := Int.mul_le_mul_of_nonneg_right t1 (by omega)
    rw [hg1] at g4
    omega
  have hb0 : x.boot = 0 := by rw [← hx]; unfold new; rw [if_pos hok]
  have hby : y.boot = 0 := by rw [← hy]; exact hb0
  have hbf : f.boot = 0 := by rw [← hf]; exact hby
  have hmx : may p x (k : Int) := by rw [← hx]; exact may_new hok hk 0
  have hmy : may p y (k : Int) := by rw [← hy, may_put]; exact hmx
  have hmf : may p f (k : Int) := by rw [← hf, may_put]; exact hmy
  have hmw : may p w (k : Int) := by rw [← hw, may_put]; exact hmf
  have hlx : k < x.gs.length := by have := hmx.2.1; have := hmx.2.2.2; omega
  have hly : k < y.gs.length := by rw [← hy, put_len]; exact hlx
  have hlf : k < f.gs.length := by rw [← hf, put_len]; exact hly
  have ax : at_ x (k : Int) = none := by rw [← hx]; exact at_new hok hk 0
  have ay : at_ y (k : Int) = ⟨one, n, now⟩ := by rw [← hy]; exact at_put hlx _
  have af : at_ f (k : Int) = none := by rw [← hf]; exact at_put hly _
  have aw : at_ w (k : Int) = ⟨two, n, now + 1⟩ := by rw [← hw]; exact at_put hlf _
  have f1 : p.free 0 now = true := decide_eq_true ⟨hok, ⟨by omega, by omega, by omega⟩, by omega⟩
  have f2 : p.free 0 (now + 1) = true := decide_eq_true ⟨hok, ⟨by omega, by omega, by omega⟩, by omega⟩
  have f3 : p.free now (now + 1) = false := decide_eq_false fun h => by have := h.2.2; omega
  have f4 : p.free 0 (p.grant - 1) = false := decide_eq_false fun h => by have := h.2.2; omega
  have f5 : p.free (now + 1) (now + 1) = false := decide_eq_false fun h => by have := h.2.2; omega
  have f6 : p.free now now = false := decide_eq_false fun h => by have := h.2.2; omega
  refine ⟨?_, ?_, ?_, ?_, ?_, ?_, ?_, ?_⟩
  · rw [ask_yes ⟨hmx, h1.1, h1.2, hn, by omega, by rw [hb0]; exact f1, Or.inl (by rw [ax]; decide)⟩, hy]
  · refine ask_no fun h => ?_
    obtain ⟨_, _, _, _, _, _, h7⟩ := h
    rw [ay] at h7
    rcases h7 with h7 | h7 | h7
    · exact absurd h7 (by simp only; omega)
    · exact absurd h7.2 (by simp only; omega)
    · rw [f3] at h7; cases h7
  · unfold free
    rw [if_pos ⟨hmy, by rw [ay], by rw [ay]⟩, hf]
  · rw [ask_yes ⟨hmf, h2.1, h2.2, hn, by omega, by rw [hbf]; exact f2, Or.inl (by rw [af]; decide)⟩, hw]
  · unfold free
    rw [if_neg]
    rintro ⟨_, _, h3⟩
    rw [ay] at h3
    simp only at h3
    omega
  · refine ask_no fun h => ?_
    have := h.2.2.2.2.2.1
    rw [hb0, f4] at this
    cases this
  · unfold holder
    rw [aw, if_pos ⟨hmw, f5⟩]
  · unfold holder
    rw [ay, if_pos ⟨hmy, f6⟩]
end Go.Proofs.Ytalfcaepobbdeaa.Gt
namespace Go.Proofs.Ytalfcaepobbdeaa
open Go.RowKit Go.Great
set_option linter.unusedVariables false
set_option linter.unusedSimpArgs false
set_option maxRecDepth 20000
theorem yields_ab {ops : Array Oper} {S : World → Prop} {op : Oper} {a : Act} (hw : Region.wanted op (yielded ops a.tmps) = true) (x : Operand) (ho : op.op = .load 30 x)
    (b : Nat) (hx : a.eval x = .pointer (some ⟨b, 0, none⟩)) (V : Array Value) (hV : V.size = 2) (hS : ∀ w, S w → Whole w b 30 V) : YieldsIf Try.prog ops S op (.agg V) a :=
  .inl ⟨hw, fun w hw' => by
    unfold execOp
    simp only [ho, hx, Instr.loadAt, Instr.sureAddr, Sem.run_bind, Sem.run_pure, Result.andThen_ok, run_loadVar_row w b 30 30 V (0, 0) _ (hS w hw') Try.underlying30 rfl (by rw [hV]; exact info_acc)]⟩
theorem yields_pl {ops : Array Oper} {S : World → Prop} {op : Oper} {a : Act} (hw : Region.wanted op (yielded ops a.tmps) = true) (x : Operand) (ho : op.op = .load 24 x)
    (b : Nat) (hx : a.eval x = .pointer (some ⟨b, 0, none⟩)) (C : Array Value) (hV : C.size = 11) (hS : ∀ w, S w → Whole w b 24 C) : YieldsIf Try.prog ops S op (.agg C) a :=
  .inl ⟨hw, fun w hw' => by
    unfold execOp
    simp only [ho, hx, Instr.loadAt, Instr.sureAddr, Sem.run_bind, Sem.run_pure, Result.andThen_ok, run_loadVar_row w b 24 24 C (0, 0) _ (hS w hw') Try.underlying24 rfl (by rw [hV]; exact info11)]⟩
theorem Kit.drew {w0 w : World} {g : Nat} {C : Array Value} {p : Dr.P} {L : List (Nat × Array Value × Gt.A)} (h : Kit w0 w g C p L) : Kit w0 w.drew g C p L := h.on (Below.refl _ _).drew
set_option maxHeartbeats 8000000 in
theorem back_walk (hg : Grn) (hw : Awake) {w : World} {S : Nat → Prop} {C : Array Value} {p : Dr.P} (h : Cc w S C p) (sl oa ob no ah : Int) (h1 : 0 ≤ sl ∧ sl < 256) (h2 : 0 ≤ oa ∧ oa < 256) (h3 : 0 ≤ ob ∧ ob < 256) (h4 : 0 ≤ no ∧ no < 65536) (h5 : 0 ≤ ah ∧ ah < 4294967296) :
    Calls Try.prog 5 #[.agg C, .int .u8 sl, .int .u8 oa, .int .u8 ob, .int .u16 no, .int .u32 ah] w fun e w' => e = .returned (.bool true) ∧ Below w.heap.size w w' := by
  have h11 := h.size
  have HG := Lib.hid hg
  have HA := Lib.hid hw
  have HP : Hid (Kit w (w.alloc (.cells C 24)) w.heap.size C p []) := Lib.hid ⟨Pl.new h, (fun q hq => by cases hq), below_alloc w _⟩
  clear hg hw h
  go_enter Try.func5, Try.ntmps5
  go_upto_region 1 with fail
  generalize w.alloc (.cells C 24) = w1 at *
  have HK := HP
  clear HP
  go_wp2_with fail
  refine (HA.out w1).mono ?_
  rintro e w2 ⟨rfl, hb⟩
  have HK := Lib.hid (HK.out.on hb)
  clear hb
  go_wp2_with (first | ((with_reducible show wpList _ _ _ ((⟨some 32, Op.load 24 (.tmp 6), _, _, _, _⟩ : Oper) :: _) _ _); refine wpList_load_rowG (by rfl) _ (.tmp 6) rfl w.heap.size rfl 24 C (0, 0) _ HK.out.pl.1 Try.underlying24 rfl (by rw [h11]; exact info11) ?_) | fail)
  refine (few_any HK.out.pl.2).mono ?_
  rintro e w3 ⟨rfl, hb⟩
  have HK := Lib.hid (HK.out.on hb)
  clear hb
  obtain ⟨fw, hfw⟩ : ∃ b, few p = b := ⟨_, rfl⟩
  rw [hfw]
  clear hfw
  cases fw
  case false =>
    go_wp2
    go_ret
    exact ⟨rfl, HK.out.below⟩
  go_wp2_with (first | ((with_reducible show wpList _ _ _ ((⟨some 36, Op.load 24 (.tmp 6), _, _, _, _⟩ : Oper) :: _) _ _); refine wpList_load_rowG (by rfl) _ (.tmp 6) rfl w.heap.size rfl 24 C (0, 0) _ HK.out.pl.1 Try.underlying24 rfl (by rw [h11]; exact info11) ?_) | fail)
  refine (check_any HK.out.pl.2).mono ?_
  rintro e w4 ⟨rfl, hb⟩
  have HK := Lib.hid (HK.out.on hb)
  clear hb
  by_cases hok : p.ok
  case neg =>
    rw [Dr.P.chk_no hok]
    clear hok
    go_wp2
    go_ret
    exact ⟨rfl, HK.out.below⟩
  rw [Dr.P.chk_ok hok]
  obtain ⟨K, hK⟩ : ∃ K : Nat, p.slots = (K : Int) := ⟨p.slots.toNat, by have := hok.2.1.1; omega⟩
  obtain ⟨M, hM⟩ : ∃ M : Nat, p.nodes = (M : Int) := ⟨p.nodes.toNat, by have := hok.1.1; omega⟩
  have hK9 : 1 ≤ K ∧ K ≤ 9 := by have h1 := hok.2.1; have h2 := hok.1; unfold Dr.P.g1 at h1; unfold Dr.P.g0 at h2; omega
  have hM9 : 1 ≤ M ∧ M ≤ 9 := by have h2 := hok.1; unfold Dr.P.g0 at h2; omega
  obtain ⟨gr, hgr⟩ : ∃ gr, p.grant = gr := ⟨_, rfl⟩
  have hgr2 : 1 ≤ gr ∧ gr ≤ 1073741824 := by rw [← hgr]; exact hok.2.2.2.1.2.1
  have c0 := HK.out.pl.cells.1
  have c1 := HK.out.pl.cells.2.1
  have c4 := HK.out.pl.cells.2.2
  rw [hM] at c0
  rw [hK] at c1
  rw [hgr] at c4
  obtain ⟨s, hs⟩ : ∃ s : Nat, sl.tmod (K : Int) = (s : Int) := ⟨(sl.tmod (K : Int)).toNat, by rw [Int.tmod_eq_emod_of_nonneg h1.1]; have := Int.emod_nonneg sl (show (K : Int) ≠ 0 by omega); omega⟩
  have hsK : s < K := by rw [Int.tmod_eq_emod_of_nonneg h1.1] at hs; have := Int.emod_lt_of_pos sl (show (0 : Int) < (K : Int) by omega); omega
  obtain ⟨one, hone⟩ : ∃ s : Nat, oa.tmod (M : Int) = (s : Int) := ⟨(oa.tmod (M : Int)).toNat, by rw [Int.tmod_eq_emod_of_nonneg h2.1]; have := Int.emod_nonneg oa (show (M : Int) ≠ 0 by omega); omega⟩
  have hoM : one < M := by rw [Int.tmod_eq_emod_of_nonneg h2.1] at hone; have := Int.emod_lt_of_pos oa (show (0 : Int) < (M : Int) by omega); omega
  obtain ⟨two, htwo⟩ : ∃ s : Nat, ob.tmod (M : Int) = (s : Int) := ⟨(ob.tmod (M : Int)).toNat, by rw [Int.tmod_eq_emod_of_nonneg h3.1]; have := Int.emod_nonneg ob (show (M : Int) ≠ 0 by omega); omega⟩
  have htM : two < M := by rw [Int.tmod_eq_emod_of_nonneg h3.1] at htwo; have := Int.emod_lt_of_pos ob (show (0 : Int) < (M : Int) by omega); omega
  have e1 : IntKind.i64.wrap sl = sl := by rw [IntKind.wrap_i64]; omega
  have e2 : IntKind.i64.wrap oa = oa := by rw [IntKind.wrap_i64]; omega
  have e3 : IntKind.i64.wrap ob = ob := by rw [IntKind.wrap_i64]; omega
  have e4 : IntKind.i64.wrap no = no := by rw [IntKind.wrap_i64]; omega
  have e5 : IntKind.i64.wrap ah = ah := by rw [IntKind.wrap_i64]; omega
  have k0 : ¬ (K = 0) := by omega
  have m0 : ¬ (M = 0) := by omega
  obtain ⟨x, hx⟩ : ∃ x, Gt.new p 0 = x := ⟨_, rfl⟩
  obtain ⟨y, hy⟩ : ∃ y, Gt.put x (s : Int) ⟨one, no, gr + ah⟩ = y := ⟨_, rfl⟩
  obtain ⟨f, hf⟩ : ∃ f, Gt.put y (s : Int) Gt.none = f := ⟨_, rfl⟩
  obtain ⟨v, hv⟩ : ∃ v, Gt.put f (s : Int) ⟨two, no, gr + ah + 1⟩ = v := ⟨_, rfl⟩
  have HB := Lib.hid (Gt.back hok (k := s) (one := one) (two := two) (n := no) (now := gr + ah) (by omega) (by omega) (by omega) (by omega) (by omega) hx hy hf hv)
  have HX := Lib.hid (And.intro hx hgr)
  obtain ⟨now, hnow⟩ : ∃ now, gr + ah = now := ⟨_, rfl⟩
  have hnr : 1 ≤ now ∧ now ≤ 10000000000 := by omega
  rw [hnow] at HB hv
  have en : IntKind.i64.wrap (now + 1) = now + 1 := by rw [IntKind.wrap_i64]; omega
  have eg : IntKind.i64.wrap (gr - 1) = gr - 1 := by rw [IntKind.wrap_i64]; omega
  have ew : IntKind.i64.wrap (gr + ah) = now := by rw [IntKind.wrap_i64]; omega
  have eo : IntKind.i64.wrap (no + 1) = no + 1 := by rw [IntKind.wrap_i64]; omega
  have HI : Hid (In64 (s : Int) ∧ In64 (one : Int) ∧ In64 (two : Int) ∧ In64 no ∧ In64 (no + 1) ∧ In64 now ∧ In64 (now + 1) ∧ In64 (gr - 1)) := Lib.hid ⟨⟨by omega, by omega⟩, ⟨by omega, by omega⟩, ⟨by omega, by omega⟩, ⟨by omega, by omega⟩, ⟨by omega, by omega⟩, ⟨by omega, by omega⟩, ⟨by omega, by omega⟩, ⟨by omega, by omega⟩⟩
  clear hok hK hM hgr hx hy hf hv hnow h1 h2 h3 h4 h5
  go_wp2_with (first | ((with_reducible show wpList _ _ _ ((⟨some 58, Op.load 24 (.tmp 6), _, _, _, _⟩ : Oper) :: _) _ _); refine wpList_load_rowG (by rfl) _ (.tmp 6) rfl w.heap.size rfl 24 C (0, 0) _ HK.out.pl.1 Try.underlying24 rfl (by rw [h11]; exact info11) ?_) | fail)
  refine (HG.out.new HK.out.pl.2 0 (in_lit (by omega))).mono ?_
  rintro e w5 ⟨V5, rfl, ha, hb⟩
  rw [HX.out.1] at ha
  have HK := Lib.hid (HK.out.on hb)
  clear hb c0 c1 c4
  have h6 := ha.size
  have h6o := ha.one
  have HA := Lib.hid ha
  clear ha
  go_upto_region 9 with (first | ((with_reducible show wpList _ _ _ ((⟨_, Op.store 30 (.tmp 18) _, _, _, _, _⟩ : Oper) :: _) _ _); refine wpList_store_row rfl 30 (.tmp 18) (.tmp 59) rfl w5.heap.size V5 rfl rfl 30 az (Whole.new w5 30 az) (by rw [h6]; exact info_acc) (by rw [h6]; rfl) h6o ?_) | fail)
  rw [← az_is]
  have HK := Lib.hid (kit_new HK.out HA.out)
  clear HA h6 h6o
  generalize (w5.alloc (.cells az 30)).setRow w5.heap.size V5 = w6 at *
  have c4 := HK.out.pl.cells.2.2
  rw [HX.out.2] at c4
  go_wp2_with (first | ((with_reducible show wpList _ _ _ ((⟨some 66, Op.load 24 (.tmp 6), _, _, _, _⟩ : Oper) :: _) _ _); refine wpList_load_rowG (by rfl) _ (.tmp 6) rfl w.heap.size rfl 24 C (0, 0) _ HK.out.pl.1 Try.underlying24 rfl (by rw [h11]; exact info11) ?_) | ((with_reducible show wpList _ _ _ ((⟨some 67, Op.load 30 (.tmp 18), _, _, _, _⟩ : Oper) :: _) _ _); refine wpList_load_rowG (by rfl) _ (.tmp 18) rfl w5.heap.size rfl 30 V5 (0, 0) _ (HK.out.bs (w5.heap.size, V5, x) (by simp)).1 Try.underlying30 rfl (by rw [(HK.out.bs (w5.heap.size, V5, x) (by simp)).2.size]; exact info_acc) ?_) | fail)
  refine (HG.out.ask HK.out.pl.2 (HK.out.bs (w5.heap.size, V5, x) (by simp)).2 (s : Int) one no now HI.out.1 HI.out.2.1 HI.out.2.2.2.1 HI.out.2.2.2.2.2.1).mono ?_
  rintro e w7 ⟨V7, rfl, ha, hb⟩
  rw [HB.out.1] at ha ⊢
  have HK := Lib.hid (HK.out.on hb)
  clear hb c4
  have h6 := ha.size
  have h6o := ha.one
  have HA := Lib.hid ha
  clear ha
  go_upto_region 11 with (first | ((with_reducible show wpList _ _ _ ((⟨_, Op.store 30 (.tmp 20) _, _, _, _, _⟩ : Oper) :: _) _ _); refine wpList_store_row rfl 30 (.tmp 20) (.tmp 73) rfl w7.heap.size V7 rfl rfl 30 az (Whole.new w7 30 az) (by rw [h6]; exact info_acc) (by rw [h6]; rfl) h6o ?_) | fail)
  rw [← az_is]
  have HK := Lib.hid (kit_new HK.out HA.out)
  clear HA h6 h6o
  generalize (w7.alloc (.cells az 30)).setRow w7.heap.size V7 = w8 at *
  go_wp2_with (first | ((with_reducible show wpList _ _ _ ((⟨some 76, Op.load 24 (.tmp 6), _, _, _, _⟩ : Oper) :: _) _ _); refine wpList_load_rowG (by rfl) _ (.tmp 6) rfl w.heap.size rfl 24 C (0, 0) _ HK.out.pl.1 Try.underlying24 rfl (by rw [h11]; exact info11) ?_) | ((with_reducible show wpList _ _ _ ((⟨some 77, Op.load 30 (.tmp 20), _, _, _, _⟩ : Oper) :: _) _ _); refine wpList_load_rowG (by rfl) _ (.tmp 20) rfl w7.heap.size rfl 30 V7 (0, 0) _ (HK.out.bs (w7.heap.size, V7, y) (by simp)).1 Try.underlying30 rfl (by rw [(HK.out.bs (w7.heap.size, V7, y) (by simp)).2.size]; exact info_acc) ?_) | fail)
  refine (HG.out.ask HK.out.pl.2 (HK.out.bs (w7.heap.size, V7, y) (by simp)).2 (s : Int) two no (now + 1) HI.out.1 HI.out.2.2.1 HI.out.2.2.2.1 HI.out.2.2.2.2.2.2.1).mono ?_
  rintro e w9 ⟨V9, rfl, ha, hb⟩
  rw [HB.out.2.1] at ha ⊢
  have HK := Lib.hid (HK.out.on hb)
  clear hb
  have h6 := ha.size
  have h6o := ha.one
  have HA := Lib.hid ha
  clear ha
  go_upto_region 12 with (first | ((with_reducible show wpList _ _ _ ((⟨_, Op.store 30 (.tmp 22) _, _, _, _, _⟩ : Oper) :: _) _ _); refine wpList_store_row rfl 30 (.tmp 22) (.tmp 84) rfl w9.heap.size V9 rfl rfl 30 az (Whole.new w9 30 az) (by rw [h6]; exact info_acc) (by rw [h6]; rfl) h6o ?_) | fail)
  rw [← az_is]
  have HK := Lib.hid (kit_new HK.out HA.out)
  clear HA h6 h6o
  generalize (w9.alloc (.cells az 30)).setRow w9.heap.size V9 = w10 at *
  go_wp2_with (first | ((with_reducible show wpList _ _ _ ((⟨some 86, Op.load 24 (.tmp 6), _, _, _, _⟩ : Oper) :: _) _ _); refine wpList_load_rowG (by rfl) _ (.tmp 6) rfl w.heap.size rfl 24 C (0, 0) _ HK.out.pl.1 Try.underlying24 rfl (by rw [h11]; exact info11) ?_) | ((with_reducible show wpList _ _ _ ((⟨some 87, Op.load 30 (.tmp 20), _, _, _, _⟩ : Oper) :: _) _ _); refine wpList_load_rowG (by rfl) _ (.tmp 20) rfl w7.heap.size rfl 30 V7 (0, 0) _ (HK.out.bs (w7.heap.size, V7, y) (by simp)).1 Try.underlying30 rfl (by rw [(HK.out.bs (w7.heap.size, V7, y) (by simp)).2.size]; exact info_acc) ?_) | fail)
  refine (HG.out.free HK.out.pl.2 (HK.out.bs (w7.heap.size, V7, y) (by simp)).2 (s : Int) one no HI.out.1 HI.out.2.1 HI.out.2.2.2.1).mono ?_
  rintro e w11 ⟨V11, rfl, ha, hb⟩
  rw [HB.out.2.2.1] at ha
  have HK := Lib.hid (HK.out.on hb)
  clear hb
  have h6 := ha.size
  have h6o := ha.one
  have HA := Lib.hid ha
  clear ha
  go_upto_region 13 with (first | ((with_reducible show wpList _ _ _ ((⟨_, Op.store 30 (.tmp 24) _, _, _, _, _⟩ : Oper) :: _) _ _); refine wpList_store_row rfl 30 (.tmp 24) (.tmp 91) rfl w11.heap.size V11 rfl rfl 30 az (Whole.new w11 30 az) (by rw [h6]; exact info_acc) (by rw [h6]; rfl) h6o ?_) | fail)
  rw [← az_is]
  have HK := Lib.hid (kit_new HK.out HA.out)
  clear HA h6 h6o
  generalize (w11.alloc (.cells az 30)).setRow w11.heap.size V11 = w12 at *
  go_wp2_with (first | ((with_reducible show wpList _ _ _ ((⟨some 93, Op.load 24 (.tmp 6), _, _, _, _⟩ : Oper) :: _) _ _); refine wpList_load_rowG (by rfl) _ (.tmp 6) rfl w.heap.size rfl 24 C (0, 0) _ HK.out.pl.1 Try.underlying24 rfl (by rw [h11]; exact info11) ?_) | ((with_reducible show wpList _ _ _ ((⟨some 94, Op.load 30 (.tmp 24), _, _, _, _⟩ : Oper) :: _) _ _); refine wpList_load_rowG (by rfl) _ (.tmp 24) rfl w11.heap.size rfl 30 V11 (0, 0) _ (HK.out.bs (w11.heap.size, V11, f) (by simp)).1 Try.underlying30 rfl (by rw [(HK.out.bs (w11.heap.size, V11, f) (by simp)).2.size]; exact info_acc) ?_) | fail)
  refine (HG.out.ask HK.out.pl.2 (HK.out.bs (w11.heap.size, V11, f) (by simp)).2 (s : Int) two no (now + 1) HI.out.1 HI.out.2.2.1 HI.out.2.2.2.1 HI.out.2.2.2.2.2.2.1).mono ?_
  rintro e w13 ⟨V13, rfl, ha, hb⟩
  rw [HB.out.2.2.2.1] at ha ⊢
  have HK := Lib.hid (HK.out.on hb)
  clear hb
  have h6 := ha.size
  have h6o := ha.one
  have HA := Lib.hid ha
  clear ha
  go_upto_region 14 with (first | ((with_reducible show wpList _ _ _ ((⟨_, Op.store 30 (.tmp 25) _, _, _, _, _⟩ : Oper) :: _) _ _); refine wpList_store_row rfl 30 (.tmp 25) (.tmp 101) rfl w13.heap.size V13 rfl rfl 30 az (Whole.new w13 30 az) (by rw [h6]; exact info_acc) (by rw [h6]; rfl) h6o ?_) | fail)
  rw [← az_is]
  have HK := Lib.hid (kit_new HK.out HA.out)
  clear HA h6 h6o
  generalize (w13.alloc (.cells az 30)).setRow w13.heap.size V13 = w14 at *
  have z5 := (HK.out.bs (w5.heap.size, V5, x) (by simp)).2.size
  have z7 := (HK.out.bs (w7.heap.size, V7, y) (by simp)).2.size
  have z9 := (HK.out.bs (w9.heap.size, V9, y) (by simp)).2.size
  have hk0 := HK.out.drew
  refine wp_region_held_drew (S := fun wq => Kit w wq w.heap.size C p [(w13.heap.size, V13, v), (w11.heap.size, V11, f), (w9.heap.size, V9, y), (w7.heap.size, V7, y), (w5.heap.size, V5, x)]) (by kernel_rfl) hk0 (fun hHeld => ?_)
  refine wpAnyH_take (i := 0) (v := .agg V9) rfl (by kernel_rfl) (by kernel_rfl) (by kernel_rfl) (fun _ _ _ h => h) (yields_ab (by rfl) _ rfl w9.heap.size rfl V9 z9 (fun wq hSw => (hSw.bs (w9.heap.size, V9, y) (by simp)).1)) (by assumption) ?_
  try simp only [Act.put, List.getElem_toArray, List.getElem_cons_zero, List.getElem_cons_succ, List.setIfInBounds_toArray, List.set_cons_zero, List.set_cons_succ]
  refine wpAnyH_take (i := 1) (v := .agg V7) rfl (by kernel_rfl) (by kernel_rfl) (by kernel_rfl) (fun _ _ _ h => h) (yields_ab (by rfl) _ rfl w7.heap.size rfl V7 z7 (fun wq hSw => (hSw.bs (w7.heap.size, V7, y) (by simp)).1)) (by assumption) ?_
  try simp only [Act.put, List.getElem_toArray, List.getElem_cons_zero, List.getElem_cons_succ, List.setIfInBounds_toArray, List.set_cons_zero, List.set_cons_succ]
  refine wpAnyH_ready (rs := [2]) (by kernel_rfl) (by simp) (AllReadyH.cons rfl (fun K hK => ?_) AllReadyH.nil)
  try simp only [List.getElem_toArray, List.getElem_cons_zero, List.getElem_cons_succ]
  go_simp
  refine (rasame_any (hk0.bs (w9.heap.size, V9, y) (by simp)).2 (hk0.bs (w7.heap.size, V7, y) (by simp)).2).mono ?_
  rintro e w15 ⟨rfl, hb⟩
  clear hk0
  have hb' : Below w14.heap.size w14 w15 := below_drew hb
  have HK := Lib.hid (HK.out.on hb')
  have hk := HK.out
  clear hb hb' hHeld
  go_wp2_with fail
  refine hK.out _ _ hk (fun hHeld => ?_)
  clear hK K hHeld
  try simp only [Act.put, List.getElem_toArray, List.getElem_cons_zero, List.getElem_cons_succ, List.setIfInBounds_toArray, List.set_cons_zero, List.set_cons_succ]
  have hHeld := hk
  clear hk
  refine wpAnyH_take (i := 3) (v := .bool true) rfl (by kernel_rfl) (by kernel_rfl) (by kernel_rfl) (fun _ _ _ h => h) (Or.inl ⟨by rfl, (by intro w hSw; (try dsimp only at hSw); go_simp)⟩) (by assumption) ?_
  try simp only [Act.put, List.getElem_toArray, List.getElem_cons_zero, List.getElem_cons_succ, List.setIfInBounds_toArray, List.set_cons_zero, List.set_cons_succ]
  refine wpAnyH_take (i := 4) (v := .agg C) rfl (by kernel_rfl) (by kernel_rfl) (by kernel_rfl) (fun _ _ _ h => h) (yields_pl (by rfl) _ rfl w.heap.size rfl C h11 (fun wq hSw => hSw.pl.1)) (by assumption) ?_
  try simp only [Act.put, List.getElem_toArray, List.getElem_cons_zero, List.getElem_cons_succ, List.setIfInBounds_toArray, List.set_cons_zero, List.set_cons_succ]
  refine wpAnyH_take (i := 5) (v := .agg V7) rfl (by kernel_rfl) (by kernel_rfl) (by kernel_rfl) (fun _ _ _ h => h) (yields_ab (by rfl) _ rfl w7.heap.size rfl V7 z7 (fun wq hSw => (hSw.bs (w7.heap.size, V7, y) (by simp)).1)) (by assumption) ?_
  try simp only [Act.put, List.getElem_toArray, List.getElem_cons_zero, List.getElem_cons_succ, List.setIfInBounds_toArray, List.set_cons_zero, List.set_cons_succ]
  refine wpAnyH_take (i := 6) (v := .int .i64 (s : Int)) rfl (by kernel_rfl) (by kernel_rfl) (by kernel_rfl) (fun _ _ _ h => h) (Or.inl ⟨by rfl, (by intro w hSw; (try dsimp only at hSw); go_simp)⟩) (by assumption) ?_
  try simp only [Act.put, List.getElem_toArray, List.getElem_cons_zero, List.getElem_cons_succ, List.setIfInBounds_toArray, List.set_cons_zero, List.set_cons_succ]
  refine wpAnyH_take (i := 7) (v := .int .i64 (one : Int)) rfl (by kernel_rfl) (by kernel_rfl) (by kernel_rfl) (fun _ _ _ h => h) (Or.inl ⟨by rfl, (by intro w hSw; (try dsimp only at hSw); go_simp)⟩) (by assumption) ?_
  try simp only [Act.put, List.getElem_toArray, List.getElem_cons_zero, List.getElem_cons_succ, List.setIfInBounds_toArray, List.set_cons_zero, List.set_cons_succ]
  refine wpAnyH_take (i := 8) (v := .int .i64 no) rfl (by kernel_rfl) (by kernel_rfl) (by kernel_rfl) (fun _ _ _ h => h) (Or.inl ⟨by rfl, (by intro w hSw; (try dsimp only at hSw); go_simp)⟩) (by assumption) ?_
  try simp only [Act.put, List.getElem_toArray, List.getElem_cons_zero, List.getElem_cons_succ, List.setIfInBounds_toArray, List.set_cons_zero, List.set_cons_succ]
  refine wpAnyH_take (i := 9) (v := .int .i64 (no + 1)) rfl (by kernel_rfl) (by kernel_rfl) (by kernel_rfl) (fun _ _ _ h => h) (Or.inl ⟨by rfl, (by intro w hSw; (try dsimp only at hSw); go_simp)⟩) (by assumption) ?_
  try simp only [Act.put, List.getElem_toArray, List.getElem_cons_zero, List.getElem_cons_succ, List.setIfInBounds_toArray, List.set_cons_zero, List.set_cons_succ]
  refine wpAnyH_take (i := 11) (v := .agg V7) rfl (by kernel_rfl) (by kernel_rfl) (by kernel_rfl) (fun _ _ _ h => h) (yields_ab (by rfl) _ rfl w7.heap.size rfl V7 z7 (fun wq hSw => (hSw.bs (w7.heap.size, V7, y) (by simp)).1)) (by assumption) ?_
  try simp only [Act.put, List.getElem_toArray, List.getElem_cons_zero, List.getElem_cons_succ, List.setIfInBounds_toArray, List.set_cons_zero, List.set_cons_succ]
  refine wpAnyH_ready (rs := [10]) (by kernel_rfl) (by simp) (AllReadyH.cons rfl (fun K hK => ?_) AllReadyH.nil)
  try simp only [List.getElem_toArray, List.getElem_cons_zero, List.getElem_cons_succ]
  go_simp
  refine (HG.out.free HK.out.pl.2 (HK.out.bs (w7.heap.size, V7, y) (by simp)).2 (s : Int) one (no + 1) HI.out.1 HI.out.2.1 HI.out.2.2.2.2.1).mono ?_
  rintro e w16 ⟨V16, rfl, ha, hb⟩
  rw [HB.out.2.2.2.2.1] at ha
  have HA16 := Lib.hid ha
  clear ha
  have hb' : Below w15.heap.size w15 w16 := hb
  have HK := Lib.hid (HK.out.on hb')
  have hk := HK.out
  clear hb hb' hHeld
  go_wp2_with fail
  refine hK.out _ _ hk (fun hHeld => ?_)
  clear hK K hHeld
  try simp only [Act.put, List.getElem_toArray, List.getElem_cons_zero, List.getElem_cons_succ, List.setIfInBounds_toArray, List.set_cons_zero, List.set_cons_succ]
  have hHeld := hk
  clear hk
  refine wpAnyH_ready (rs := [12]) (by kernel_rfl) (by simp) (AllReadyH.cons rfl (fun K hK => ?_) AllReadyH.nil)
  try simp only [List.getElem_toArray, List.getElem_cons_zero, List.getElem_cons_succ]
  go_simp
  refine (rasame_any HA16.out (HK.out.bs (w7.heap.size, V7, y) (by simp)).2).mono ?_
  rintro e w17 ⟨rfl, hb⟩
  clear HA16
  have hb' : Below w16.heap.size w16 w17 := hb
  have HK := Lib.hid (HK.out.on hb')
  have hk := HK.out
  clear hb hb' hHeld
  go_wp2_with fail
  refine hK.out _ _ hk (fun hHeld => ?_)
  clear hK K hHeld
  try simp only [Act.put, List.getElem_toArray, List.getElem_cons_zero, List.getElem_cons_succ, List.setIfInBounds_toArray, List.set_cons_zero, List.set_cons_succ]
  have hHeld := hk
  clear hk
  refine wpAnyH_take (i := 13) (v := .bool true) rfl (by kernel_rfl) (by kernel_rfl) (by kernel_rfl) (fun _ _ _ h => h) (Or.inl ⟨by rfl, (by intro w hSw; (try dsimp only at hSw); go_simp)⟩) (by assumption) ?_
  try simp only [Act.put, List.getElem_toArray, List.getElem_cons_zero, List.getElem_cons_succ, List.setIfInBounds_toArray, List.set_cons_zero, List.set_cons_succ]
  refine wpAnyH_take (i := 14) (v := .bool true) rfl (by kernel_rfl) (by kernel_rfl) (by kernel_rfl) (fun _ _ _ h => h) (Or.inl ⟨by rfl, (by intro w hSw; (try dsimp only at hSw); go_simp)⟩) (by assumption) ?_
  try simp only [Act.put, List.getElem_toArray, List.getElem_cons_zero, List.getElem_cons_succ, List.setIfInBounds_toArray, List.set_cons_zero, List.set_cons_succ]
  refine wpAnyH_done (by kernel_rfl) ?_ _
  clear hHeld
  have c4 := HK.out.pl.cells.2.2
  rw [HX.out.2] at c4
  go_wp2_with (first | ((with_reducible show wpList _ _ _ ((⟨some 118, Op.load 24 (.tmp 6), _, _, _, _⟩ : Oper) :: _) _ _); refine wpList_load_rowG (by rfl) _ (.tmp 6) rfl w.heap.size rfl 24 C (0, 0) _ HK.out.pl.1 Try.underlying24 rfl (by rw [h11]; exact info11) ?_) | ((with_reducible show wpList _ _ _ ((⟨some 119, Op.load 30 (.tmp 18), _, _, _, _⟩ : Oper) :: _) _ _); refine wpList_load_rowG (by rfl) _ (.tmp 18) rfl w5.heap.size rfl 30 V5 (0, 0) _ (HK.out.bs (w5.heap.size, V5, x) (by simp)).1 Try.underlying30 rfl (by rw [(HK.out.bs (w5.heap.size, V5, x) (by simp)).2.size]; exact info_acc) ?_) | fail)
  refine (HG.out.ask HK.out.pl.2 (HK.out.bs (w5.heap.size, V5, x) (by simp)).2 (s : Int) one no (gr - 1) HI.out.1 HI.out.2.1 HI.out.2.2.2.1 HI.out.2.2.2.2.2.2.2).mono ?_
  rintro e w18 ⟨V18, rfl, ha, hb⟩
  have h6' := HB.out.2.2.2.2.2.1
  rw [HX.out.2] at h6'
  rw [h6'] at ha ⊢
  have HK := Lib.hid (HK.out.on hb)
  clear hb c4 h6'
  have h6 := ha.size
  have h6o := ha.one
  have HA := Lib.hid ha
  clear ha
  go_upto_region 16 with (first | ((with_reducible show wpList _ _ _ ((⟨_, Op.store 30 (.tmp 28) _, _, _, _, _⟩ : Oper) :: _) _ _); refine wpList_store_row rfl 30 (.tmp 28) (.tmp 127) rfl w18.heap.size V18 rfl rfl 30 az (Whole.new w18 30 az) (by rw [h6]; exact info_acc) (by rw [h6]; rfl) h6o ?_) | fail)
  rw [← az_is]
  have HK := Lib.hid (kit_new HK.out HA.out)
  clear HA h6 h6o
  generalize (w18.alloc (.cells az 30)).setRow w18.heap.size V18 = w19 at *
  go_wp2_with (first | ((with_reducible show wpList _ _ _ ((⟨some 129, Op.load 30 (.tmp 28), _, _, _, _⟩ : Oper) :: _) _ _); refine wpList_load_rowG (by rfl) _ (.tmp 28) rfl w18.heap.size rfl 30 V18 (0, 0) _ (HK.out.bs (w18.heap.size, V18, x) (by simp)).1 Try.underlying30 rfl (by rw [(HK.out.bs (w18.heap.size, V18, x) (by simp)).2.size]; exact info_acc) ?_) | ((with_reducible show wpList _ _ _ ((⟨some 130, Op.load 30 (.tmp 18), _, _, _, _⟩ : Oper) :: _) _ _); refine wpList_load_rowG (by rfl) _ (.tmp 18) rfl w5.heap.size rfl 30 V5 (0, 0) _ (HK.out.bs (w5.heap.size, V5, x) (by simp)).1 Try.underlying30 rfl (by rw [(HK.out.bs (w5.heap.size, V5, x) (by simp)).2.size]; exact info_acc) ?_) | fail)
  refine (rasame_any (HK.out.bs (w18.heap.size, V18, x) (by simp)).2 (HK.out.bs (w5.heap.size, V5, x) (by simp)).2).mono ?_
  rintro e w20 ⟨rfl, hb⟩
  have HK := Lib.hid (HK.out.on hb)
  clear hb
  go_wp2_with (first | ((with_reducible show wpList _ _ _ ((⟨some 147, Op.load 24 (.tmp 6), _, _, _, _⟩ : Oper) :: _) _ _); refine wpList_load_rowG (by rfl) _ (.tmp 6) rfl w.heap.size rfl 24 C (0, 0) _ HK.out.pl.1 Try.underlying24 rfl (by rw [h11]; exact info11) ?_) | ((with_reducible show wpList _ _ _ ((⟨some 148, Op.load 30 (.tmp 25), _, _, _, _⟩ : Oper) :: _) _ _); refine wpList_load_rowG (by rfl) _ (.tmp 25) rfl w13.heap.size rfl 30 V13 (0, 0) _ (HK.out.bs (w13.heap.size, V13, v) (by simp)).1 Try.underlying30 rfl (by rw [(HK.out.bs (w13.heap.size, V13, v) (by simp)).2.size]; exact info_acc) ?_) | fail)
  refine (HG.out.holder HK.out.pl.2 (HK.out.bs (w13.heap.size, V13, v) (by simp)).2 (s : Int) (now + 1) HI.out.1 HI.out.2.2.2.2.2.2.1).mono ?_
  rintro e w21 ⟨rfl, hb⟩
  rw [HB.out.2.2.2.2.2.2.1]
  have q2 : ((two : Int) == (two : Int)) = true := by simp
  have q1 : ((one : Int) == (one : Int)) = true := by simp
  have HK := Lib.hid (HK.out.on hb)
  clear hb
  go_wp2_with (first | ((with_reducible show wpList _ _ _ ((⟨some 157, Op.load 24 (.tmp 6), _, _, _, _⟩ : Oper) :: _) _ _); refine wpList_load_rowG (by rfl) _ (.tmp 6) rfl w.heap.size rfl 24 C (0, 0) _ HK.out.pl.1 Try.underlying24 rfl (by rw [h11]; exact info11) ?_) | ((with_reducible show wpList _ _ _ ((⟨some 158, Op.load 30 (.tmp 20), _, _, _, _⟩ : Oper) :: _) _ _); refine wpList_load_rowG (by rfl) _ (.tmp 20) rfl w7.heap.size rfl 30 V7 (0, 0) _ (HK.out.bs (w7.heap.size, V7, y) (by simp)).1 Try.underlying30 rfl (by rw [(HK.out.bs (w7.heap.size, V7, y) (by simp)).2.size]; exact info_acc) ?_) | fail)
  refine (HG.out.holder HK.out.pl.2 (HK.out.bs (w7.heap.size, V7, y) (by simp)).2 (s : Int) now HI.out.1 HI.out.2.2.2.2.2.1).mono ?_
  rintro e w22 ⟨rfl, hb⟩
  rw [HB.out.2.2.2.2.2.2.2]
  have HK := Lib.hid (HK.out.on hb)
  clear hb
  go_wp2
  go_ret
  exact ⟨rfl, HK.out.below⟩
end Go.Proofs.Ytalfcaepobbdeaa
