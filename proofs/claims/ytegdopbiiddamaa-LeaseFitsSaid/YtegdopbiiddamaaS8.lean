/-
  The walk of LeaseMore.
-/
import Derived.Test.YtegdopbiiddamaaS6
namespace Go.Proofs.Ytegdopbiiddamaa
open Go.RowKit Go.Great
set_option linter.unusedVariables false
set_option linter.unusedSimpArgs false
set_option maxRecDepth 20000
theorem xor_one (no : Int) (h : In64 no) : bits .xor .i64 no 1 ≠ no ∧ In64 (bits .xor .i64 no 1) := by
  have e : bits .xor .i64 no 1 = IntKind.i64.wrap ((BitVec.ofInt 64 no ^^^ BitVec.ofInt 64 1).toNat : Int) := by
    simp only [bits, IntKind.bits]
    rfl
  rw [e, IntKind.wrap_i64]
  have hlt := (BitVec.ofInt 64 no ^^^ BitVec.ofInt 64 1).isLt
  have hz : ((BitVec.ofInt 64 no).toNat : Int) = no % 18446744073709551616 := by rw [BitVec.toNat_ofInt]; omega
  have hne : (BitVec.ofInt 64 no ^^^ BitVec.ofInt 64 1).toNat ≠ (BitVec.ofInt 64 no).toNat := fun hh => by
    have h1 := BitVec.eq_of_toNat_eq hh
    have h2 : BitVec.ofInt 64 no ^^^ (BitVec.ofInt 64 no ^^^ BitVec.ofInt 64 1) = 0#64 := by rw [h1, BitVec.xor_self]
    rw [← BitVec.xor_assoc, BitVec.xor_self, BitVec.zero_xor] at h2
    exact absurd h2 (by decide)
  obtain ⟨h1, h2⟩ := h
  refine ⟨fun hh => ?_, ?_, ?_⟩ <;> omega
theorem grant_other {p : Dr.P} {l : Ln.L} {node sl x : Int} (h : x ≠ l.nonce) : Ln.grant p l node sl x = l := if_neg fun ht => h ht.2.2.1
theorem held_more {p : Dr.P} {l : Ln.L} {now : Int} (node sl no : Int) (h : Ln.held p l now = true) : Ln.held p (Ln.grant p l node sl no) now = true := by
  unfold Ln.grant
  split
  · unfold Ln.held at h ⊢
    obtain ⟨h1, h2⟩ := Bool.and_eq_true_iff.1 h
    rw [h1, Bool.true_and]
    have := of_decide_eq_true h2
    refine decide_eq_true ?_
    have := Ln.cnt_more (l := l.fr) (l' := l.fr ++ [node]) (fun x hx => List.mem_append_left _ hx) p.nodes.toNat
    show p.maj ≤ (Ln.cnt (l.fr ++ [node]) p.nodes.toNat : Int)
    omega
  · exact h
theorem held_none {p : Dr.P} {s no a now : Int} : Ln.held p ⟨s, no, a, []⟩ now = false := by
  unfold Ln.held
  rw [Ln.cnt_nil]
  by_cases hh : p.holds a now = true
  · obtain ⟨hok, _⟩ := of_decide_eq_true hh
    have hm : ¬ p.maj ≤ ((0 : Nat) : Int) := by
      unfold Dr.P.maj
      rw [if_pos hok]
      have h2 := hok.1
      unfold Dr.P.g0 at h2
      omega
    rw [hh, Bool.true_and]
    exact decide_eq_false hm
  · simp [hh]
theorem Lb.f0 {w : World} {g : Nat} {V : Array Value} {l : Ln.L} (h : Lb w g V l) : w.cell? ⟨g, 0, none⟩ = some (.int .i64 l.slot) := by
  obtain ⟨h1, ad, n, c, rfl, _⟩ := h
  exact h1.cell 0
theorem Lb.f1 {w : World} {g : Nat} {V : Array Value} {l : Ln.L} (h : Lb w g V l) : w.cell? ⟨g, 1, none⟩ = some (.int .i64 l.nonce) := by
  obtain ⟨h1, ad, n, c, rfl, _⟩ := h
  exact h1.cell 1
theorem Lb.f3 {w : World} {g : Nat} {V : Array Value} {l : Ln.L} {s no a : Int} {ad : Option Addr} {n c : Nat} (h : Lb w g V l) (e : V = lcs s no a ad n c) : w.cell? ⟨g, 3, none⟩ = some (.slice ad n c) := by
  rw [e] at h
  exact h.1.cell 3
set_option maxHeartbeats 8000000 in
theorem lmore_walk (hg : Lea) (hw : LAwake) {w : World} {S : Nat → Prop} {C V : Array Value} {p : Dr.P} {l : Ln.L} (h : Cc w S C p) (ha : Lse w V l) (node now : Int) (h1 : In64 node) (h2 : In64 now) :
    Calls Try.prog 6 #[.agg C, .agg V, .int .i64 node, .int .i64 now] w fun e w' => e = .returned (.bool true) ∧ Below w.heap.size w w' := by
  have HI := Lib.hid (And.intro h1 h2)
  clear h1 h2
  have h11 := h.size
  have HG := Lib.hid hg
  have HA := Lib.hid hw
  obtain ⟨w1, hw1, hk⟩ := boxes_pl h ha
  have HW := Lib.hid hw1
  obtain ⟨g2, hg2⟩ : ∃ g, w.heap.size + 1 = g := ⟨_, rfl⟩
  have HK : Hid (LKit w w1 w.heap.size C p [(g2, V, l)]) := Lib.hid ⟨hk.pl, (fun q hq => by rw [List.mem_singleton.1 hq, ← hg2]; exact hk.lb), hk.below⟩
  clear hg hw h hw1 hk
  obtain ⟨ad, n, c, eV, hrow, hnc, hi0, hi1, hi2⟩ := ha
  have hl : l.fr.length = n := hrow.1
  have HV := Lib.hid eV
  have HJ := Lib.hid (And.intro hi0 (And.intro hi1 hi2))
  clear hrow eV hnc hi0 hi1 hi2
  go_enter Try.func6, Try.ntmps6
  go_upto_region 1 with fail
  rw [HW.out]
  clear hg2 HW
  obtain ⟨g1, hg1⟩ : ∃ g, w.heap.size = g := ⟨_, rfl⟩
  rw [hg1] at HK ⊢
  clear hg1
  go_wp2_with fail
  refine (HA.out w1).mono ?_
  rintro e w2 ⟨rfl, hb⟩
  have HK := Lib.hid (HK.out.on hb)
  clear hb
  go_wp2_with (first | ((with_reducible show wpList _ _ _ ((⟨some 14, Op.load 24 (.tmp 4), _, _, _, _⟩ : Oper) :: _) _ _); refine wpList_load_rowG (by rfl) _ (.tmp 4) rfl g1 rfl 24 C (0, 0) _ HK.out.pl.1 Try.underlying24 rfl (by rw [h11]; exact info11) ?_) | fail)
  refine (few_any HK.out.pl.2).mono ?_
  rintro e w3 ⟨rfl, hb⟩
  have HK := Lib.hid (HK.out.on hb)
  clear hb
  obtain ⟨fw, hfw⟩ : ∃ b, few p = b := ⟨_, rfl⟩
  rw [hfw]
  clear hfw
  cases fw
  case false =>
    go_wp2
    go_ret
    exact ⟨rfl, HK.out.below⟩
  have s3 : w3.cell? ⟨g2, 3, none⟩ = some (.slice ad n c) := by
    have := (HK.out.bs (g2, V, l) (by simp)).1.cell 3
    dsimp only at this
    rw [HV.out] at this
    exact this
  by_cases y : n > 50
  · have y' : ((n : Int) > 50) := by omega
    go_wp2
    go_ret
    exact ⟨rfl, HK.out.below⟩
  have y' : decide ((n : Int) > 50) = false := decide_eq_false (by omega)
  have HL : Hid (l.fr.length ≤ 50) := Lib.hid (by omega)
  have HNL := Lib.hid hl
  clear hl
  obtain ⟨sl, hsl⟩ : ∃ x, l.slot = x := ⟨_, rfl⟩
  obtain ⟨no, hno⟩ : ∃ x, l.nonce = x := ⟨_, rfl⟩
  have HSN := Lib.hid (And.intro hsl hno)
  clear hsl hno
  have s0 : w3.cell? ⟨g2, 0, none⟩ = some (.int .i64 sl) := by
    have := (HK.out.bs (g2, V, l) (by simp)).1.cell 0
    dsimp only at this
    rw [HV.out] at this
    exact this.trans (by rw [← HSN.out.1]; rfl)
  have s1 : w3.cell? ⟨g2, 1, none⟩ = some (.int .i64 no) := by
    have := (HK.out.bs (g2, V, l) (by simp)).1.cell 1
    dsimp only at this
    rw [HV.out] at this
    exact this.trans (by rw [← HSN.out.2]; rfl)
  go_upto_region 4 with fail
  clear y y' s3
  go_wp2_with (first | ((with_reducible show wpList _ _ _ ((⟨some 24, Op.load 24 (.tmp 4), _, _, _, _⟩ : Oper) :: _) _ _); refine wpList_load_rowG (by rfl) _ (.tmp 4) rfl g1 rfl 24 C (0, 0) _ HK.out.pl.1 Try.underlying24 rfl (by rw [h11]; exact info11) ?_) | ((with_reducible show wpList _ _ _ ((⟨some 25, Op.load 26 (.tmp 5), _, _, _, _⟩ : Oper) :: _) _ _); refine wpList_load_rowG (by rfl) _ (.tmp 5) rfl g2 rfl 26 V (0, 0) _ (HK.out.bs (g2, V, l) (by simp)).1 Try.underlying26 rfl (by rw [(HK.out.bs (g2, V, l) (by simp)).2.size]; exact info_ls) ?_) | fail)
  obtain ⟨lm, hlm⟩ : ∃ x, Ln.grant p l node sl no = x := ⟨_, rfl⟩
  refine (HG.out.grant HK.out.pl.2 (HK.out.bs (g2, V, l) (by simp)).2 (by have := HL.out; show l.fr.length ≤ 1000; omega) node sl no HI.out.1 (by rw [← HSN.out.1]; exact HJ.out.1) (by rw [← HSN.out.2]; exact HJ.out.2.1)).mono ?_
  rintro e w4 ⟨V4, rfl, ha, hb⟩
  rw [hlm] at ha
  have HLM := Lib.hid hlm
  have HK := Lib.hid (HK.out.on hb)
  clear hb hlm s0 s1
  have h6 := ha.size
  have h6o := ha.one
  have HA := Lib.hid ha
  clear ha
  go_upto_region 5 with (first | ((with_reducible show wpList _ _ _ ((⟨_, Op.store 26 (.tmp 10) _, _, _, _, _⟩ : Oper) :: _) _ _); refine wpList_store_row rfl 26 (.tmp 10) (.tmp 31) rfl w4.heap.size V4 rfl rfl 26 lz (Whole.new w4 26 lz) (by rw [h6]; exact info_ls) (by rw [h6]; rfl) h6o ?_) | fail)
  rw [← lz_is]
  have HK := Lib.hid (lkit_new HK.out HA.out)
  clear HA h6 h6o
  generalize (w4.alloc (.cells lz 26)).setRow w4.heap.size V4 = w5 at *
  have s1 : w5.cell? ⟨g2, 1, none⟩ = some (.int .i64 no) := by
    have := (HK.out.bs (g2, V, l) (by simp)).1.cell 1
    dsimp only at this
    rw [HV.out] at this
    exact this.trans (by rw [← HSN.out.2]; rfl)
  have s0 : w5.cell? ⟨g2, 0, none⟩ = some (.int .i64 sl) := by
    have := (HK.out.bs (g2, V, l) (by simp)).1.cell 0
    dsimp only at this
    rw [HV.out] at this
    exact this.trans (by rw [← HSN.out.1]; rfl)
  obtain ⟨xo, hxo⟩ : ∃ x, bits .xor .i64 no 1 = x := ⟨_, rfl⟩
  have HXO : Hid (xo ≠ no ∧ In64 xo) := Lib.hid (by rw [← hxo]; exact xor_one no (by rw [← HSN.out.2]; exact HJ.out.2.1))
  go_wp2_with (first | ((with_reducible show wpList _ _ _ ((⟨some 32, Op.load 24 (.tmp 4), _, _, _, _⟩ : Oper) :: _) _ _); refine wpList_load_rowG (by rfl) _ (.tmp 4) rfl g1 rfl 24 C (0, 0) _ HK.out.pl.1 Try.underlying24 rfl (by rw [h11]; exact info11) ?_) | ((with_reducible show wpList _ _ _ ((⟨some 33, Op.load 26 (.tmp 5), _, _, _, _⟩ : Oper) :: _) _ _); refine wpList_load_rowG (by rfl) _ (.tmp 5) rfl g2 rfl 26 V (0, 0) _ (HK.out.bs (g2, V, l) (by simp)).1 Try.underlying26 rfl (by rw [(HK.out.bs (g2, V, l) (by simp)).2.size]; exact info_ls) ?_) | fail)
  clear hxo
  refine (HG.out.grant HK.out.pl.2 (HK.out.bs (g2, V, l) (by simp)).2 (by have := HL.out; show l.fr.length ≤ 1000; omega) node sl xo HI.out.1 (by rw [← HSN.out.1]; exact HJ.out.1) HXO.out.2).mono ?_
  rintro e w6 ⟨V6, rfl, ha, hb⟩
  rw [grant_other (by show xo ≠ l.nonce; rw [HSN.out.2]; exact HXO.out.1)] at ha
  have HK := Lib.hid (HK.out.on hb)
  clear hb s0 s1
  have h6 := ha.size
  have h6o := ha.one
  have HA := Lib.hid ha
  clear ha
  go_upto_region 6 with (first | ((with_reducible show wpList _ _ _ ((⟨_, Op.store 26 (.tmp 11) _, _, _, _, _⟩ : Oper) :: _) _ _); refine wpList_store_row rfl 26 (.tmp 11) (.tmp 40) rfl w6.heap.size V6 rfl rfl 26 lz (Whole.new w6 26 lz) (by rw [h6]; exact info_ls) (by rw [h6]; rfl) h6o ?_) | fail)
  rw [← lz_is]
  have HK := Lib.hid (lkit_new HK.out HA.out)
  clear HA h6 h6o
  generalize (w6.alloc (.cells lz 26)).setRow w6.heap.size V6 = w7 at *
  obtain ⟨g4, hg4⟩ : ∃ g, w4.heap.size = g := ⟨_, rfl⟩
  obtain ⟨g6, hg6⟩ : ∃ g, w6.heap.size = g := ⟨_, rfl⟩
  rw [hg4, hg6] at HK ⊢
  clear hg4 hg6
  go_wp2_with (first | ((with_reducible show wpList _ _ _ ((⟨some 41, Op.load 26 (.tmp 11), _, _, _, _⟩ : Oper) :: _) _ _); refine wpList_load_rowG (by rfl) _ (.tmp 11) rfl g6 rfl 26 V6 (0, 0) _ (HK.out.bs (g6, V6, l) (by simp)).1 Try.underlying26 rfl (by rw [(HK.out.bs (g6, V6, l) (by simp)).2.size]; exact info_ls) ?_) | ((with_reducible show wpList _ _ _ ((⟨some 42, Op.load 26 (.tmp 5), _, _, _, _⟩ : Oper) :: _) _ _); refine wpList_load_rowG (by rfl) _ (.tmp 5) rfl g2 rfl 26 V (0, 0) _ (HK.out.bs (g2, V, l) (by simp)).1 Try.underlying26 rfl (by rw [(HK.out.bs (g2, V, l) (by simp)).2.size]; exact info_ls) ?_) | fail)
  refine (rlsame_any (HK.out.bs (g6, V6, l) (by simp)).2 (HK.out.bs (g2, V, l) (by simp)).2 (by have := HL.out; show l.fr.length ≤ 1000000; omega)).mono ?_
  rintro e w8 ⟨rfl, hb⟩
  have HK := Lib.hid (HK.out.on hb)
  clear hb
  go_upto_region 7 with fail
  have z2 : V.size = 4 := (HK.out.bs (g2, V, l) (by simp)).2.size
  have z4 : V4.size = 4 := (HK.out.bs (g4, V4, lm) (by simp)).2.size
  obtain ⟨ad4, n4, c4, e4, hr4, _⟩ := (HK.out.bs (g4, V4, lm) (by simp)).2
  dsimp only at e4 hr4
  have hn4 : Hid ((n4 : Int) ≤ (n : Int) + 1 ∧ n ≤ 50 ∧ n4 ≤ 51) := Lib.hid (by
    have h1 := hr4.1
    have h2 := Ln.grant_len p l node sl no
    rw [HLM.out] at h2
    have h3 := HL.out
    have h4 := HNL.out
    omega)
  have HV4 := Lib.hid e4
  clear hr4 e4
  have hk0 := HK.out.drew
  refine wp_region_held_drew (S := fun wq => LKit w wq g1 C p [(g6, V6, l), (g4, V4, lm), (g2, V, l)]) (by kernel_rfl) hk0 (fun hHeld => ?_)
  have HK := Lib.hid hk0
  generalize w8.drew = wd at *
  clear hk0
  refine wpAnyH_take (i := 0) (v := .bool true) rfl (by kernel_rfl) (by kernel_rfl) (by kernel_rfl) (fun _ _ _ h => h) (Or.inl ⟨by rfl, (by intro w hSw; (try dsimp only at hSw); go_simp)⟩) (by assumption) ?_
  try simp only [Act.put, List.getElem_toArray, List.getElem_cons_zero, List.getElem_cons_succ, List.setIfInBounds_toArray, List.set_cons_zero, List.set_cons_succ]
  refine wpAnyH_take (i := 1) (v := .bool true) rfl (by kernel_rfl) (by kernel_rfl) (by kernel_rfl) (fun _ _ _ h => h) (Or.inl ⟨by rfl, (by intro w hSw; (try dsimp only at hSw); go_simp)⟩) (by assumption) ?_
  try simp only [Act.put, List.getElem_toArray, List.getElem_cons_zero, List.getElem_cons_succ, List.setIfInBounds_toArray, List.set_cons_zero, List.set_cons_succ]
  refine wpAnyH_take (i := 2) (v := .bool true) rfl (by kernel_rfl) (by kernel_rfl) (by kernel_rfl) (fun _ _ _ h => h) (Or.inl ⟨by rfl, (by intro w hSw; (try dsimp only at hSw); go_simp)⟩) (by assumption) ?_
  try simp only [Act.put, List.getElem_toArray, List.getElem_cons_zero, List.getElem_cons_succ, List.setIfInBounds_toArray, List.set_cons_zero, List.set_cons_succ]
  refine wpAnyH_take (i := 3) (v := .bool true) rfl (by kernel_rfl) (by kernel_rfl) (by kernel_rfl) (fun _ _ _ h => h) (Or.inl ⟨by rfl, (by intro w hSw; (try dsimp only at hSw); go_simp)⟩) (by assumption) ?_
  try simp only [Act.put, List.getElem_toArray, List.getElem_cons_zero, List.getElem_cons_succ, List.setIfInBounds_toArray, List.set_cons_zero, List.set_cons_succ]
  refine wpAnyH_take (i := 4) (v := .bool true) rfl (by kernel_rfl) (by kernel_rfl) (by kernel_rfl) (fun _ _ _ h => h) (Or.inl ⟨by rfl, (by intro w hSw; (try dsimp only at hSw); go_simp)⟩) (by assumption) ?_
  try simp only [Act.put, List.getElem_toArray, List.getElem_cons_zero, List.getElem_cons_succ, List.setIfInBounds_toArray, List.set_cons_zero, List.set_cons_succ]
  refine wpAnyH_take (i := 5) (v := .agg C) rfl (by kernel_rfl) (by kernel_rfl) (by kernel_rfl) (fun _ _ _ h => h) (yields_lp (by rfl) _ rfl g1 rfl C h11 (fun wq hSw => hSw.pl.1)) (by assumption) ?_
  try simp only [Act.put, List.getElem_toArray, List.getElem_cons_zero, List.getElem_cons_succ, List.setIfInBounds_toArray, List.set_cons_zero, List.set_cons_succ]
  refine wpAnyH_take (i := 6) (v := .agg V) rfl (by kernel_rfl) (by kernel_rfl) (by kernel_rfl) (fun _ _ _ h => h) (yields_lb (by rfl) _ rfl g2 rfl V z2 (fun wq hSw => (hSw.bs (g2, V, l) (by simp)).1)) (by assumption) ?_
  try simp only [Act.put, List.getElem_toArray, List.getElem_cons_zero, List.getElem_cons_succ, List.setIfInBounds_toArray, List.set_cons_zero, List.set_cons_succ]
  refine wpAnyH_take (i := 7) (v := .int .i64 now) rfl (by kernel_rfl) (by kernel_rfl) (by kernel_rfl) (fun _ _ _ h => h) (Or.inl ⟨by rfl, (by intro w hSw; (try dsimp only at hSw); go_simp)⟩) (by assumption) ?_
  try simp only [Act.put, List.getElem_toArray, List.getElem_cons_zero, List.getElem_cons_succ, List.setIfInBounds_toArray, List.set_cons_zero, List.set_cons_succ]
  refine wpAnyH_ready (rs := [8]) (by kernel_rfl) (by simp) (AllReadyH.cons rfl (fun K hK => ?_) AllReadyH.nil)
  try simp only [List.getElem_toArray, List.getElem_cons_zero, List.getElem_cons_succ]
  go_simp
  refine (HG.out.held HK.out.pl.2 (HK.out.bs (g2, V, l) (by simp)).2 (by have := HL.out; show l.fr.length ≤ 1000; omega) now HI.out.2).mono ?_
  rintro e wa ⟨rfl, hb⟩
  have HK := Lib.hid (HK.out.on hb)
  obtain ⟨a, haa⟩ : ∃ x, Ln.held p l now = x := ⟨_, rfl⟩
  rw [haa]
  have HAA := Lib.hid haa
  clear hb hHeld haa
  have hk := HK.out
  go_wp2_with fail
  refine hK.out _ _ hk (fun hHeld => ?_)
  clear hK K hHeld
  try simp only [Act.put, List.getElem_toArray, List.getElem_cons_zero, List.getElem_cons_succ, List.setIfInBounds_toArray, List.set_cons_zero, List.set_cons_succ]
  have hHeld := hk
  clear hk
  cases a with
  | false =>
    refine wpAnyH_take (i := 9) (v := .bool true) rfl (by kernel_rfl) (by kernel_rfl) (by kernel_rfl) (fun _ _ _ h => h) (Or.inl ⟨by rfl, (by intro w hSw; (try dsimp only at hSw); go_simp)⟩) (by assumption) ?_
    try simp only [Act.put, List.getElem_toArray, List.getElem_cons_zero, List.getElem_cons_succ, List.setIfInBounds_toArray, List.set_cons_zero, List.set_cons_succ]
    refine wpAnyH_take (i := 10) (v := .bool true) rfl (by kernel_rfl) (by kernel_rfl) (by kernel_rfl) (fun _ _ _ h => h) (Or.inl ⟨by rfl, (by intro w hSw; (try dsimp only at hSw); go_simp)⟩) (by assumption) ?_
    try simp only [Act.put, List.getElem_toArray, List.getElem_cons_zero, List.getElem_cons_succ, List.setIfInBounds_toArray, List.set_cons_zero, List.set_cons_succ]
    refine wpAnyH_take (i := 11) (v := undef) rfl (by kernel_rfl) (by kernel_rfl) (by kernel_rfl) (fun _ _ _ h => h) (Or.inr ⟨by rfl, rfl⟩) (by assumption) ?_
    try simp only [Act.put, List.getElem_toArray, List.getElem_cons_zero, List.getElem_cons_succ, List.setIfInBounds_toArray, List.set_cons_zero, List.set_cons_succ]
    refine wpAnyH_take (i := 12) (v := undef) rfl (by kernel_rfl) (by kernel_rfl) (by kernel_rfl) (fun _ _ _ h => h) (Or.inr ⟨by rfl, rfl⟩) (by assumption) ?_
    try simp only [Act.put, List.getElem_toArray, List.getElem_cons_zero, List.getElem_cons_succ, List.setIfInBounds_toArray, List.set_cons_zero, List.set_cons_succ]
    refine wpAnyH_take (i := 13) (v := undef) rfl (by kernel_rfl) (by kernel_rfl) (by kernel_rfl) (fun _ _ _ h => h) (Or.inr ⟨by rfl, rfl⟩) (by assumption) ?_
    try simp only [Act.put, List.getElem_toArray, List.getElem_cons_zero, List.getElem_cons_succ, List.setIfInBounds_toArray, List.set_cons_zero, List.set_cons_succ]
    refine wpAnyH_ready (rs := [14]) (by kernel_rfl) (by simp) (AllReadyH.cons rfl (fun K hK => ?_) AllReadyH.nil)
    try simp only [List.getElem_toArray, List.getElem_cons_zero, List.getElem_cons_succ]
    go_simp
    clear hHeld
    have hk := HK.out
    go_wp2_with fail
    refine hK.out _ _ hk (fun hHeld => ?_)
    clear hK K hHeld
    try simp only [Act.put, List.getElem_toArray, List.getElem_cons_zero, List.getElem_cons_succ, List.setIfInBounds_toArray, List.set_cons_zero, List.set_cons_succ]
    have hHeld := hk
    clear hk
    refine wpAnyH_take (i := 15) (v := .bool true) rfl (by kernel_rfl) (by kernel_rfl) (by kernel_rfl) (fun _ _ _ h => h) (Or.inl ⟨by rfl, (by intro w hSw; (try dsimp only at hSw); go_simp)⟩) (by assumption) ?_
    try simp only [Act.put, List.getElem_toArray, List.getElem_cons_zero, List.getElem_cons_succ, List.setIfInBounds_toArray, List.set_cons_zero, List.set_cons_succ]
    refine wpAnyH_take (i := 16) (v := .bool true) rfl (by kernel_rfl) (by kernel_rfl) (by kernel_rfl) (fun _ _ _ h => h) (Or.inl ⟨by rfl, (by intro w hSw; (try dsimp only at hSw); go_simp)⟩) (by assumption) ?_
    try simp only [Act.put, List.getElem_toArray, List.getElem_cons_zero, List.getElem_cons_succ, List.setIfInBounds_toArray, List.set_cons_zero, List.set_cons_succ]
    refine wpAnyH_take (i := 17) (v := .bool true) rfl (by kernel_rfl) (by kernel_rfl) (by kernel_rfl) (fun _ _ _ h => h) (Or.inl ⟨by rfl, (by intro w hSw; (try dsimp only at hSw); go_simp)⟩) (by assumption) ?_
    try simp only [Act.put, List.getElem_toArray, List.getElem_cons_zero, List.getElem_cons_succ, List.setIfInBounds_toArray, List.set_cons_zero, List.set_cons_succ]
    refine wpAnyH_take (i := 18) (v := .agg C) rfl (by kernel_rfl) (by kernel_rfl) (by kernel_rfl) (fun _ _ _ h => h) (yields_lp (by rfl) _ rfl g1 rfl C h11 (fun wq hSw => hSw.pl.1)) (by assumption) ?_
    try simp only [Act.put, List.getElem_toArray, List.getElem_cons_zero, List.getElem_cons_succ, List.setIfInBounds_toArray, List.set_cons_zero, List.set_cons_succ]
    refine wpAnyH_take (i := 19) (v := .pointer (some ⟨g2, 0, none⟩)) rfl (by kernel_rfl) (by kernel_rfl) (by kernel_rfl) (fun _ _ _ h => h) (Or.inl ⟨by rfl, (by intro w hSw; (try dsimp only at hSw); go_simp)⟩) (by assumption) ?_
    try simp only [Act.put, List.getElem_toArray, List.getElem_cons_zero, List.getElem_cons_succ, List.setIfInBounds_toArray, List.set_cons_zero, List.set_cons_succ]
    refine wpAnyH_take (i := 20) (v := .int .i64 sl) rfl (by kernel_rfl) (by kernel_rfl) (by kernel_rfl) (fun _ _ _ h => h) (Or.inl ⟨by rfl, (by intro wq hSw; have hq : wq.cell? ⟨g2, 0, none⟩ = some (.int .i64 l.slot) := (hSw.bs (g2, V, l) (by simp)).f0; rw [HSN.out.1] at hq; clear hSw; go_simp)⟩) (by assumption) ?_
    try simp only [Act.put, List.getElem_toArray, List.getElem_cons_zero, List.getElem_cons_succ, List.setIfInBounds_toArray, List.set_cons_zero, List.set_cons_succ]
    refine wpAnyH_take (i := 21) (v := .pointer (some ⟨g2, 1, none⟩)) rfl (by kernel_rfl) (by kernel_rfl) (by kernel_rfl) (fun _ _ _ h => h) (Or.inl ⟨by rfl, (by intro w hSw; (try dsimp only at hSw); go_simp)⟩) (by assumption) ?_
    try simp only [Act.put, List.getElem_toArray, List.getElem_cons_zero, List.getElem_cons_succ, List.setIfInBounds_toArray, List.set_cons_zero, List.set_cons_succ]
    refine wpAnyH_take (i := 22) (v := .int .i64 no) rfl (by kernel_rfl) (by kernel_rfl) (by kernel_rfl) (fun _ _ _ h => h) (Or.inl ⟨by rfl, (by intro wq hSw; have hq : wq.cell? ⟨g2, 1, none⟩ = some (.int .i64 l.nonce) := (hSw.bs (g2, V, l) (by simp)).f1; rw [HSN.out.2] at hq; clear hSw; go_simp)⟩) (by assumption) ?_
    try simp only [Act.put, List.getElem_toArray, List.getElem_cons_zero, List.getElem_cons_succ, List.setIfInBounds_toArray, List.set_cons_zero, List.set_cons_succ]
    refine wpAnyH_take (i := 23) (v := .int .i64 now) rfl (by kernel_rfl) (by kernel_rfl) (by kernel_rfl) (fun _ _ _ h => h) (Or.inl ⟨by rfl, (by intro w hSw; (try dsimp only at hSw); go_simp)⟩) (by assumption) ?_
    try simp only [Act.put, List.getElem_toArray, List.getElem_cons_zero, List.getElem_cons_succ, List.setIfInBounds_toArray, List.set_cons_zero, List.set_cons_succ]
    refine wpAnyH_take (i := 25) (v := .int .i64 now) rfl (by kernel_rfl) (by kernel_rfl) (by kernel_rfl) (fun _ _ _ h => h) (Or.inl ⟨by rfl, (by intro w hSw; (try dsimp only at hSw); go_simp)⟩) (by assumption) ?_
    try simp only [Act.put, List.getElem_toArray, List.getElem_cons_zero, List.getElem_cons_succ, List.setIfInBounds_toArray, List.set_cons_zero, List.set_cons_succ]
    refine wpAnyH_ready (rs := [24]) (by kernel_rfl) (by simp) (AllReadyH.cons rfl (fun K hK => ?_) AllReadyH.nil)
    try simp only [List.getElem_toArray, List.getElem_cons_zero, List.getElem_cons_succ]
    go_simp
    refine (HG.out.ask wa sl no now (by rw [← HSN.out.1]; exact HJ.out.1) (by rw [← HSN.out.2]; exact HJ.out.2.1) HI.out.2).mono ?_
    rintro e wx ⟨Vx, rfl, ha, hb⟩
    have HK := Lib.hid (HK.out.on hb)
    have HX := Lib.hid ha
    clear ha hb hHeld
    have hk := HK.out
    go_wp2_with fail
    refine hK.out _ _ hk (fun hHeld => ?_)
    clear hK K hHeld
    try simp only [Act.put, List.getElem_toArray, List.getElem_cons_zero, List.getElem_cons_succ, List.setIfInBounds_toArray, List.set_cons_zero, List.set_cons_succ]
    have hHeld := hk
    clear hk
    refine wpAnyH_ready (rs := [26]) (by kernel_rfl) (by simp) (AllReadyH.cons rfl (fun K hK => ?_) AllReadyH.nil)
    try simp only [List.getElem_toArray, List.getElem_cons_zero, List.getElem_cons_succ]
    go_simp
    refine (HG.out.held HK.out.pl.2 HX.out (by show (0 : Nat) ≤ 1000; omega) now HI.out.2).mono ?_
    rintro e wy ⟨rfl, hb⟩
    have HK := Lib.hid (HK.out.on hb)
    rw [held_none]
    clear hb hHeld HX
    have hk := HK.out
    go_wp2_with fail
    refine hK.out _ _ hk (fun hHeld => ?_)
    clear hK K hHeld
    try simp only [Act.put, List.getElem_toArray, List.getElem_cons_zero, List.getElem_cons_succ, List.setIfInBounds_toArray, List.set_cons_zero, List.set_cons_succ]
    have hHeld := hk
    clear hk
    refine wpAnyH_take (i := 27) (v := .bool true) rfl (by kernel_rfl) (by kernel_rfl) (by kernel_rfl) (fun _ _ _ h => h) (Or.inl ⟨by rfl, (by intro w hSw; (try dsimp only at hSw); go_simp)⟩) (by assumption) ?_
    try simp only [Act.put, List.getElem_toArray, List.getElem_cons_zero, List.getElem_cons_succ, List.setIfInBounds_toArray, List.set_cons_zero, List.set_cons_succ]
    refine wpAnyH_take (i := 28) (v := .bool true) rfl (by kernel_rfl) (by kernel_rfl) (by kernel_rfl) (fun _ _ _ h => h) (Or.inl ⟨by rfl, (by intro w hSw; (try dsimp only at hSw); go_simp)⟩) (by assumption) ?_
    try simp only [Act.put, List.getElem_toArray, List.getElem_cons_zero, List.getElem_cons_succ, List.setIfInBounds_toArray, List.set_cons_zero, List.set_cons_succ]
    refine wpAnyH_take (i := 29) (v := .bool true) rfl (by kernel_rfl) (by kernel_rfl) (by kernel_rfl) (fun _ _ _ h => h) (Or.inl ⟨by rfl, (by intro w hSw; (try dsimp only at hSw); go_simp)⟩) (by assumption) ?_
    try simp only [Act.put, List.getElem_toArray, List.getElem_cons_zero, List.getElem_cons_succ, List.setIfInBounds_toArray, List.set_cons_zero, List.set_cons_succ]
    refine wpAnyH_take (i := 30) (v := .pointer (some ⟨g4, 3, none⟩)) rfl (by kernel_rfl) (by kernel_rfl) (by kernel_rfl) (fun _ _ _ h => h) (Or.inl ⟨by rfl, (by intro w hSw; (try dsimp only at hSw); go_simp)⟩) (by assumption) ?_
    try simp only [Act.put, List.getElem_toArray, List.getElem_cons_zero, List.getElem_cons_succ, List.setIfInBounds_toArray, List.set_cons_zero, List.set_cons_succ]
    refine wpAnyH_take (i := 31) (v := .slice ad4 n4 c4) rfl (by kernel_rfl) (by kernel_rfl) (by kernel_rfl) (fun _ _ _ h => h) (Or.inl ⟨by rfl, (by intro wq hSw; have hq : wq.cell? ⟨g4, 3, none⟩ = some (.slice ad4 n4 c4) := (hSw.bs (g4, V4, lm) (by simp)).f3 HV4.out; clear hSw; go_simp)⟩) (by assumption) ?_
    try simp only [Act.put, List.getElem_toArray, List.getElem_cons_zero, List.getElem_cons_succ, List.setIfInBounds_toArray, List.set_cons_zero, List.set_cons_succ]
    refine wpAnyH_take (i := 32) (v := .int .i64 (n4 : Int)) rfl (by kernel_rfl) (by kernel_rfl) (by kernel_rfl) (fun _ _ _ h => h) (Or.inl ⟨by rfl, (by intro w hSw; (try dsimp only at hSw); go_simp)⟩) (by assumption) ?_
    try simp only [Act.put, List.getElem_toArray, List.getElem_cons_zero, List.getElem_cons_succ, List.setIfInBounds_toArray, List.set_cons_zero, List.set_cons_succ]
    refine wpAnyH_take (i := 33) (v := .pointer (some ⟨g2, 3, none⟩)) rfl (by kernel_rfl) (by kernel_rfl) (by kernel_rfl) (fun _ _ _ h => h) (Or.inl ⟨by rfl, (by intro w hSw; (try dsimp only at hSw); go_simp)⟩) (by assumption) ?_
    try simp only [Act.put, List.getElem_toArray, List.getElem_cons_zero, List.getElem_cons_succ, List.setIfInBounds_toArray, List.set_cons_zero, List.set_cons_succ]
    refine wpAnyH_take (i := 34) (v := .slice ad n c) rfl (by kernel_rfl) (by kernel_rfl) (by kernel_rfl) (fun _ _ _ h => h) (Or.inl ⟨by rfl, (by intro wq hSw; have hq : wq.cell? ⟨g2, 3, none⟩ = some (.slice ad n c) := (hSw.bs (g2, V, l) (by simp)).f3 HV.out; clear hSw; go_simp)⟩) (by assumption) ?_
    try simp only [Act.put, List.getElem_toArray, List.getElem_cons_zero, List.getElem_cons_succ, List.setIfInBounds_toArray, List.set_cons_zero, List.set_cons_succ]
    refine wpAnyH_take (i := 35) (v := .int .i64 (n : Int)) rfl (by kernel_rfl) (by kernel_rfl) (by kernel_rfl) (fun _ _ _ h => h) (Or.inl ⟨by rfl, (by intro w hSw; (try dsimp only at hSw); go_simp)⟩) (by assumption) ?_
    try simp only [Act.put, List.getElem_toArray, List.getElem_cons_zero, List.getElem_cons_succ, List.setIfInBounds_toArray, List.set_cons_zero, List.set_cons_succ]
    have ew : IntKind.i64.wrap ((n : Int) + 1) = (n : Int) + 1 := by have := hn4.out; rw [IntKind.wrap_i64]; omega
    refine wpAnyH_take (i := 36) (v := .int .i64 ((n : Int) + 1)) rfl (by kernel_rfl) (by kernel_rfl) (by kernel_rfl) (fun _ _ _ h => h) (Or.inl ⟨by rfl, (by intro w hSw; (try dsimp only at hSw); go_simp)⟩) (by assumption) ?_
    try simp only [Act.put, List.getElem_toArray, List.getElem_cons_zero, List.getElem_cons_succ, List.setIfInBounds_toArray, List.set_cons_zero, List.set_cons_succ]
    clear ew
    have eq4 : (n4 : Int) ≤ (n : Int) + 1 := hn4.out.1
    refine wpAnyH_take (i := 37) (v := .bool true) rfl (by kernel_rfl) (by kernel_rfl) (by kernel_rfl) (fun _ _ _ h => h) (Or.inl ⟨by rfl, (by intro w hSw; (try dsimp only at hSw); go_simp)⟩) (by assumption) ?_
    try simp only [Act.put, List.getElem_toArray, List.getElem_cons_zero, List.getElem_cons_succ, List.setIfInBounds_toArray, List.set_cons_zero, List.set_cons_succ]
    refine wpAnyH_take (i := 38) (v := .bool true) rfl (by kernel_rfl) (by kernel_rfl) (by kernel_rfl) (fun _ _ _ h => h) (Or.inl ⟨by rfl, (by intro w hSw; (try dsimp only at hSw); go_simp)⟩) (by assumption) ?_
    try simp only [Act.put, List.getElem_toArray, List.getElem_cons_zero, List.getElem_cons_succ, List.setIfInBounds_toArray, List.set_cons_zero, List.set_cons_succ]
    refine wpAnyH_take (i := 39) (v := .bool true) rfl (by kernel_rfl) (by kernel_rfl) (by kernel_rfl) (fun _ _ _ h => h) (Or.inl ⟨by rfl, (by intro w hSw; (try dsimp only at hSw); go_simp)⟩) (by assumption) ?_
    try simp only [Act.put, List.getElem_toArray, List.getElem_cons_zero, List.getElem_cons_succ, List.setIfInBounds_toArray, List.set_cons_zero, List.set_cons_succ]
    refine wpAnyH_done (by kernel_rfl) ?_ _
    clear hHeld eq4
    go_wp2
    go_ret
    exact ⟨rfl, HK.out.below⟩
  | true =>
    refine wpAnyH_take (i := 9) (v := .bool false) rfl (by kernel_rfl) (by kernel_rfl) (by kernel_rfl) (fun _ _ _ h => h) (Or.inl ⟨by rfl, (by intro w hSw; (try dsimp only at hSw); go_simp)⟩) (by assumption) ?_
    try simp only [Act.put, List.getElem_toArray, List.getElem_cons_zero, List.getElem_cons_succ, List.setIfInBounds_toArray, List.set_cons_zero, List.set_cons_succ]
    refine wpAnyH_take (i := 10) (v := .bool false) rfl (by kernel_rfl) (by kernel_rfl) (by kernel_rfl) (fun _ _ _ h => h) (Or.inl ⟨by rfl, (by intro w hSw; (try dsimp only at hSw); go_simp)⟩) (by assumption) ?_
    try simp only [Act.put, List.getElem_toArray, List.getElem_cons_zero, List.getElem_cons_succ, List.setIfInBounds_toArray, List.set_cons_zero, List.set_cons_succ]
    refine wpAnyH_take (i := 11) (v := .agg C) rfl (by kernel_rfl) (by kernel_rfl) (by kernel_rfl) (fun _ _ _ h => h) (yields_lp (by rfl) _ rfl g1 rfl C h11 (fun wq hSw => hSw.pl.1)) (by assumption) ?_
    try simp only [Act.put, List.getElem_toArray, List.getElem_cons_zero, List.getElem_cons_succ, List.setIfInBounds_toArray, List.set_cons_zero, List.set_cons_succ]
    refine wpAnyH_take (i := 12) (v := .agg V4) rfl (by kernel_rfl) (by kernel_rfl) (by kernel_rfl) (fun _ _ _ h => h) (yields_lb (by rfl) _ rfl g4 rfl V4 z4 (fun wq hSw => (hSw.bs (g4, V4, lm) (by simp)).1)) (by assumption) ?_
    try simp only [Act.put, List.getElem_toArray, List.getElem_cons_zero, List.getElem_cons_succ, List.setIfInBounds_toArray, List.set_cons_zero, List.set_cons_succ]
    refine wpAnyH_take (i := 13) (v := .int .i64 now) rfl (by kernel_rfl) (by kernel_rfl) (by kernel_rfl) (fun _ _ _ h => h) (Or.inl ⟨by rfl, (by intro w hSw; (try dsimp only at hSw); go_simp)⟩) (by assumption) ?_
    try simp only [Act.put, List.getElem_toArray, List.getElem_cons_zero, List.getElem_cons_succ, List.setIfInBounds_toArray, List.set_cons_zero, List.set_cons_succ]
    refine wpAnyH_ready (rs := [14]) (by kernel_rfl) (by simp) (AllReadyH.cons rfl (fun K hK => ?_) AllReadyH.nil)
    try simp only [List.getElem_toArray, List.getElem_cons_zero, List.getElem_cons_succ]
    go_simp
    refine (HG.out.held HK.out.pl.2 (HK.out.bs (g4, V4, lm) (by simp)).2 (by have h2 := Ln.grant_len p l node sl no; rw [HLM.out] at h2; have h3 := HL.out; show lm.fr.length ≤ 1000; omega) now HI.out.2).mono ?_
    rintro e wb ⟨rfl, hb⟩
    have HK := Lib.hid (HK.out.on hb)
    rw [show Ln.held p lm now = true by rw [← HLM.out]; exact held_more node sl no HAA.out]
    clear hb hHeld
    have hk := HK.out
    go_wp2_with fail
    refine hK.out _ _ hk (fun hHeld => ?_)
    clear hK K hHeld
    try simp only [Act.put, List.getElem_toArray, List.getElem_cons_zero, List.getElem_cons_succ, List.setIfInBounds_toArray, List.set_cons_zero, List.set_cons_succ]
    have hHeld := hk
    clear hk
    refine wpAnyH_take (i := 15) (v := .bool true) rfl (by kernel_rfl) (by kernel_rfl) (by kernel_rfl) (fun _ _ _ h => h) (Or.inl ⟨by rfl, (by intro w hSw; (try dsimp only at hSw); go_simp)⟩) (by assumption) ?_
    try simp only [Act.put, List.getElem_toArray, List.getElem_cons_zero, List.getElem_cons_succ, List.setIfInBounds_toArray, List.set_cons_zero, List.set_cons_succ]
    refine wpAnyH_take (i := 16) (v := .bool true) rfl (by kernel_rfl) (by kernel_rfl) (by kernel_rfl) (fun _ _ _ h => h) (Or.inl ⟨by rfl, (by intro w hSw; (try dsimp only at hSw); go_simp)⟩) (by assumption) ?_
    try simp only [Act.put, List.getElem_toArray, List.getElem_cons_zero, List.getElem_cons_succ, List.setIfInBounds_toArray, List.set_cons_zero, List.set_cons_succ]
    refine wpAnyH_take (i := 17) (v := .bool true) rfl (by kernel_rfl) (by kernel_rfl) (by kernel_rfl) (fun _ _ _ h => h) (Or.inl ⟨by rfl, (by intro w hSw; (try dsimp only at hSw); go_simp)⟩) (by assumption) ?_
    try simp only [Act.put, List.getElem_toArray, List.getElem_cons_zero, List.getElem_cons_succ, List.setIfInBounds_toArray, List.set_cons_zero, List.set_cons_succ]
    refine wpAnyH_take (i := 18) (v := .agg C) rfl (by kernel_rfl) (by kernel_rfl) (by kernel_rfl) (fun _ _ _ h => h) (yields_lp (by rfl) _ rfl g1 rfl C h11 (fun wq hSw => hSw.pl.1)) (by assumption) ?_
    try simp only [Act.put, List.getElem_toArray, List.getElem_cons_zero, List.getElem_cons_succ, List.setIfInBounds_toArray, List.set_cons_zero, List.set_cons_succ]
    refine wpAnyH_take (i := 19) (v := .pointer (some ⟨g2, 0, none⟩)) rfl (by kernel_rfl) (by kernel_rfl) (by kernel_rfl) (fun _ _ _ h => h) (Or.inl ⟨by rfl, (by intro w hSw; (try dsimp only at hSw); go_simp)⟩) (by assumption) ?_
    try simp only [Act.put, List.getElem_toArray, List.getElem_cons_zero, List.getElem_cons_succ, List.setIfInBounds_toArray, List.set_cons_zero, List.set_cons_succ]
    refine wpAnyH_take (i := 20) (v := .int .i64 sl) rfl (by kernel_rfl) (by kernel_rfl) (by kernel_rfl) (fun _ _ _ h => h) (Or.inl ⟨by rfl, (by intro wq hSw; have hq : wq.cell? ⟨g2, 0, none⟩ = some (.int .i64 l.slot) := (hSw.bs (g2, V, l) (by simp)).f0; rw [HSN.out.1] at hq; clear hSw; go_simp)⟩) (by assumption) ?_
    try simp only [Act.put, List.getElem_toArray, List.getElem_cons_zero, List.getElem_cons_succ, List.setIfInBounds_toArray, List.set_cons_zero, List.set_cons_succ]
    refine wpAnyH_take (i := 21) (v := .pointer (some ⟨g2, 1, none⟩)) rfl (by kernel_rfl) (by kernel_rfl) (by kernel_rfl) (fun _ _ _ h => h) (Or.inl ⟨by rfl, (by intro w hSw; (try dsimp only at hSw); go_simp)⟩) (by assumption) ?_
    try simp only [Act.put, List.getElem_toArray, List.getElem_cons_zero, List.getElem_cons_succ, List.setIfInBounds_toArray, List.set_cons_zero, List.set_cons_succ]
    refine wpAnyH_take (i := 22) (v := .int .i64 no) rfl (by kernel_rfl) (by kernel_rfl) (by kernel_rfl) (fun _ _ _ h => h) (Or.inl ⟨by rfl, (by intro wq hSw; have hq : wq.cell? ⟨g2, 1, none⟩ = some (.int .i64 l.nonce) := (hSw.bs (g2, V, l) (by simp)).f1; rw [HSN.out.2] at hq; clear hSw; go_simp)⟩) (by assumption) ?_
    try simp only [Act.put, List.getElem_toArray, List.getElem_cons_zero, List.getElem_cons_succ, List.setIfInBounds_toArray, List.set_cons_zero, List.set_cons_succ]
    refine wpAnyH_take (i := 23) (v := .int .i64 now) rfl (by kernel_rfl) (by kernel_rfl) (by kernel_rfl) (fun _ _ _ h => h) (Or.inl ⟨by rfl, (by intro w hSw; (try dsimp only at hSw); go_simp)⟩) (by assumption) ?_
    try simp only [Act.put, List.getElem_toArray, List.getElem_cons_zero, List.getElem_cons_succ, List.setIfInBounds_toArray, List.set_cons_zero, List.set_cons_succ]
    refine wpAnyH_take (i := 25) (v := .int .i64 now) rfl (by kernel_rfl) (by kernel_rfl) (by kernel_rfl) (fun _ _ _ h => h) (Or.inl ⟨by rfl, (by intro w hSw; (try dsimp only at hSw); go_simp)⟩) (by assumption) ?_
    try simp only [Act.put, List.getElem_toArray, List.getElem_cons_zero, List.getElem_cons_succ, List.setIfInBounds_toArray, List.set_cons_zero, List.set_cons_succ]
    refine wpAnyH_ready (rs := [24]) (by kernel_rfl) (by simp) (AllReadyH.cons rfl (fun K hK => ?_) AllReadyH.nil)
    try simp only [List.getElem_toArray, List.getElem_cons_zero, List.getElem_cons_succ]
    go_simp
    refine (HG.out.ask wb sl no now (by rw [← HSN.out.1]; exact HJ.out.1) (by rw [← HSN.out.2]; exact HJ.out.2.1) HI.out.2).mono ?_
    rintro e wx ⟨Vx, rfl, ha, hb⟩
    have HK := Lib.hid (HK.out.on hb)
    have HX := Lib.hid ha
    clear ha hb hHeld
    have hk := HK.out
    go_wp2_with fail
    refine hK.out _ _ hk (fun hHeld => ?_)
    clear hK K hHeld
    try simp only [Act.put, List.getElem_toArray, List.getElem_cons_zero, List.getElem_cons_succ, List.setIfInBounds_toArray, List.set_cons_zero, List.set_cons_succ]
    have hHeld := hk
    clear hk
    refine wpAnyH_ready (rs := [26]) (by kernel_rfl) (by simp) (AllReadyH.cons rfl (fun K hK => ?_) AllReadyH.nil)
    try simp only [List.getElem_toArray, List.getElem_cons_zero, List.getElem_cons_succ]
    go_simp
    refine (HG.out.held HK.out.pl.2 HX.out (by show (0 : Nat) ≤ 1000; omega) now HI.out.2).mono ?_
    rintro e wy ⟨rfl, hb⟩
    have HK := Lib.hid (HK.out.on hb)
    rw [held_none]
    clear hb hHeld HX
    have hk := HK.out
    go_wp2_with fail
    refine hK.out _ _ hk (fun hHeld => ?_)
    clear hK K hHeld
    try simp only [Act.put, List.getElem_toArray, List.getElem_cons_zero, List.getElem_cons_succ, List.setIfInBounds_toArray, List.set_cons_zero, List.set_cons_succ]
    have hHeld := hk
    clear hk
    refine wpAnyH_take (i := 27) (v := .bool true) rfl (by kernel_rfl) (by kernel_rfl) (by kernel_rfl) (fun _ _ _ h => h) (Or.inl ⟨by rfl, (by intro w hSw; (try dsimp only at hSw); go_simp)⟩) (by assumption) ?_
    try simp only [Act.put, List.getElem_toArray, List.getElem_cons_zero, List.getElem_cons_succ, List.setIfInBounds_toArray, List.set_cons_zero, List.set_cons_succ]
    refine wpAnyH_take (i := 28) (v := .bool true) rfl (by kernel_rfl) (by kernel_rfl) (by kernel_rfl) (fun _ _ _ h => h) (Or.inl ⟨by rfl, (by intro w hSw; (try dsimp only at hSw); go_simp)⟩) (by assumption) ?_
    try simp only [Act.put, List.getElem_toArray, List.getElem_cons_zero, List.getElem_cons_succ, List.setIfInBounds_toArray, List.set_cons_zero, List.set_cons_succ]
    refine wpAnyH_take (i := 29) (v := .bool true) rfl (by kernel_rfl) (by kernel_rfl) (by kernel_rfl) (fun _ _ _ h => h) (Or.inl ⟨by rfl, (by intro w hSw; (try dsimp only at hSw); go_simp)⟩) (by assumption) ?_
    try simp only [Act.put, List.getElem_toArray, List.getElem_cons_zero, List.getElem_cons_succ, List.setIfInBounds_toArray, List.set_cons_zero, List.set_cons_succ]
    refine wpAnyH_take (i := 30) (v := .pointer (some ⟨g4, 3, none⟩)) rfl (by kernel_rfl) (by kernel_rfl) (by kernel_rfl) (fun _ _ _ h => h) (Or.inl ⟨by rfl, (by intro w hSw; (try dsimp only at hSw); go_simp)⟩) (by assumption) ?_
    try simp only [Act.put, List.getElem_toArray, List.getElem_cons_zero, List.getElem_cons_succ, List.setIfInBounds_toArray, List.set_cons_zero, List.set_cons_succ]
    refine wpAnyH_take (i := 31) (v := .slice ad4 n4 c4) rfl (by kernel_rfl) (by kernel_rfl) (by kernel_rfl) (fun _ _ _ h => h) (Or.inl ⟨by rfl, (by intro wq hSw; have hq : wq.cell? ⟨g4, 3, none⟩ = some (.slice ad4 n4 c4) := (hSw.bs (g4, V4, lm) (by simp)).f3 HV4.out; clear hSw; go_simp)⟩) (by assumption) ?_
    try simp only [Act.put, List.getElem_toArray, List.getElem_cons_zero, List.getElem_cons_succ, List.setIfInBounds_toArray, List.set_cons_zero, List.set_cons_succ]
    refine wpAnyH_take (i := 32) (v := .int .i64 (n4 : Int)) rfl (by kernel_rfl) (by kernel_rfl) (by kernel_rfl) (fun _ _ _ h => h) (Or.inl ⟨by rfl, (by intro w hSw; (try dsimp only at hSw); go_simp)⟩) (by assumption) ?_
    try simp only [Act.put, List.getElem_toArray, List.getElem_cons_zero, List.getElem_cons_succ, List.setIfInBounds_toArray, List.set_cons_zero, List.set_cons_succ]
    refine wpAnyH_take (i := 33) (v := .pointer (some ⟨g2, 3, none⟩)) rfl (by kernel_rfl) (by kernel_rfl) (by kernel_rfl) (fun _ _ _ h => h) (Or.inl ⟨by rfl, (by intro w hSw; (try dsimp only at hSw); go_simp)⟩) (by assumption) ?_
    try simp only [Act.put, List.getElem_toArray, List.getElem_cons_zero, List.getElem_cons_succ, List.setIfInBounds_toArray, List.set_cons_zero, List.set_cons_succ]
    refine wpAnyH_take (i := 34) (v := .slice ad n c) rfl (by kernel_rfl) (by kernel_rfl) (by kernel_rfl) (fun _ _ _ h => h) (Or.inl ⟨by rfl, (by intro wq hSw; have hq : wq.cell? ⟨g2, 3, none⟩ = some (.slice ad n c) := (hSw.bs (g2, V, l) (by simp)).f3 HV.out; clear hSw; go_simp)⟩) (by assumption) ?_
    try simp only [Act.put, List.getElem_toArray, List.getElem_cons_zero, List.getElem_cons_succ, List.setIfInBounds_toArray, List.set_cons_zero, List.set_cons_succ]
    refine wpAnyH_take (i := 35) (v := .int .i64 (n : Int)) rfl (by kernel_rfl) (by kernel_rfl) (by kernel_rfl) (fun _ _ _ h => h) (Or.inl ⟨by rfl, (by intro w hSw; (try dsimp only at hSw); go_simp)⟩) (by assumption) ?_
    try simp only [Act.put, List.getElem_toArray, List.getElem_cons_zero, List.getElem_cons_succ, List.setIfInBounds_toArray, List.set_cons_zero, List.set_cons_succ]
    have ew : IntKind.i64.wrap ((n : Int) + 1) = (n : Int) + 1 := by have := hn4.out; rw [IntKind.wrap_i64]; omega
    refine wpAnyH_take (i := 36) (v := .int .i64 ((n : Int) + 1)) rfl (by kernel_rfl) (by kernel_rfl) (by kernel_rfl) (fun _ _ _ h => h) (Or.inl ⟨by rfl, (by intro w hSw; (try dsimp only at hSw); go_simp)⟩) (by assumption) ?_
    try simp only [Act.put, List.getElem_toArray, List.getElem_cons_zero, List.getElem_cons_succ, List.setIfInBounds_toArray, List.set_cons_zero, List.set_cons_succ]
    clear ew
    have eq4 : (n4 : Int) ≤ (n : Int) + 1 := hn4.out.1
    refine wpAnyH_take (i := 37) (v := .bool true) rfl (by kernel_rfl) (by kernel_rfl) (by kernel_rfl) (fun _ _ _ h => h) (Or.inl ⟨by rfl, (by intro w hSw; (try dsimp only at hSw); go_simp)⟩) (by assumption) ?_
    try simp only [Act.put, List.getElem_toArray, List.getElem_cons_zero, List.getElem_cons_succ, List.setIfInBounds_toArray, List.set_cons_zero, List.set_cons_succ]
    refine wpAnyH_take (i := 38) (v := .bool true) rfl (by kernel_rfl) (by kernel_rfl) (by kernel_rfl) (fun _ _ _ h => h) (Or.inl ⟨by rfl, (by intro w hSw; (try dsimp only at hSw); go_simp)⟩) (by assumption) ?_
    try simp only [Act.put, List.getElem_toArray, List.getElem_cons_zero, List.getElem_cons_succ, List.setIfInBounds_toArray, List.set_cons_zero, List.set_cons_succ]
    refine wpAnyH_take (i := 39) (v := .bool true) rfl (by kernel_rfl) (by kernel_rfl) (by kernel_rfl) (fun _ _ _ h => h) (Or.inl ⟨by rfl, (by intro w hSw; (try dsimp only at hSw); go_simp)⟩) (by assumption) ?_
    try simp only [Act.put, List.getElem_toArray, List.getElem_cons_zero, List.getElem_cons_succ, List.setIfInBounds_toArray, List.set_cons_zero, List.set_cons_succ]
    refine wpAnyH_done (by kernel_rfl) ?_ _
    clear hHeld eq4
    go_wp2
    go_ret
    exact ⟨rfl, HK.out.below⟩
end Go.Proofs.Ytegdopbiiddamaa
