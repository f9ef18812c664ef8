/-
  The walk of LeaseSlots.
-/
import Derived.Test.YtegdopbiiddamaaS6
namespace Go.Proofs.Ytegdopbiiddamaa
open Go.RowKit Go.Great
set_option linter.unusedVariables false
set_option linter.unusedSimpArgs false
set_option maxRecDepth 20000
/-- Which of nine numbers are among some. -/
def sb (l : List Int) : List Value := (List.range 9).map fun x : Nat => .bool (decide ((x : Int) ∈ l))
theorem sb_get (l : List Int) {x : Nat} (h : x < 9) : (sb l)[x]? = some (.bool (decide ((x : Int) ∈ l))) := by simp [sb, h]
theorem sb_set {l l' : List Int} {x : Nat} (hx : x < 9) (h : ∀ y, y ∈ l' ↔ y ∈ l ∨ y = (x : Int)) : (sb l).toArray.setIfInBounds x (.bool true) = (sb l').toArray := by
  rw [List.setIfInBounds_toArray]
  congr 1
  unfold sb
  refine List.ext_getElem (by simp) fun i h1 h2 => ?_
  rw [List.getElem_set]
  simp only [List.getElem_map, List.getElem_range]
  split
  · rename_i e
    subst e
    rw [decide_eq_true ((h _).2 (Or.inr rfl))]
  · rename_i e
    congr 1
    rw [decide_eq_decide, h]
    constructor
    · exact Or.inl
    · rintro (h | h)
      · exact h
      · exact absurd h (by omega)
theorem built_s9 : Try.prog.built 54 [] = some (sb []).toArray := by kernel_rfl
theorem zero_s9 : (sb []).toArray = #[.bool false, .bool false, .bool false, .bool false, .bool false, .bool false, .bool false, .bool false, .bool false] := by kernel_rfl
theorem info_s9 : (Try.prog.info? 54).map (·.size) = some 9 := by kernel_rfl
def ring (b K : Int) (i : Nat) : List Int := (List.range i).map fun j : Nat => (b + (j : Int)) % K
theorem ring_succ (b K : Int) (i : Nat) (y : Int) : y ∈ ring b K (i + 1) ↔ y ∈ ring b K i ∨ y = (b + (i : Int)) % K := by
  unfold ring
  rw [List.range_succ, List.map_append, List.mem_append]
  simp
theorem ring_new {b : Int} {K i : Nat} (h : 1 ≤ K ∧ K ≤ 9) (hi : i < K) : (b + (i : Int)) % (K : Int) ∉ ring b K i := by
  intro hm
  obtain ⟨j, hj, e⟩ := List.mem_map.1 hm
  have hj := List.mem_range.1 hj
  have hK : K = 1 ∨ K = 2 ∨ K = 3 ∨ K = 4 ∨ K = 5 ∨ K = 6 ∨ K = 7 ∨ K = 8 ∨ K = 9 := by omega
  rcases hK with rfl | rfl | rfl | rfl | rfl | rfl | rfl | rfl | rfl <;> omega
theorem slot_is {p : Dr.P} {K : Nat} (hok : p.ok) (hK : p.slots = (K : Int)) {node n : Int} (h1 : 0 ≤ node ∧ node ≤ 1000) (h2 : 0 ≤ n ∧ n ≤ 1000000) : Ln.slot p node n = (node + n) % (K : Int) := by
  unfold Ln.slot
  rw [if_pos ⟨hok, h1.1, h1.2, h2.1, by omega⟩, hK]
set_option maxHeartbeats 8000000 in
theorem lslots_walk (hg : Lea) (hw : LAwake) {w : World} {S : Nat → Prop} {C : Array Value} {p : Dr.P} (h : Cc w S C p) (nd m : Int) (h1 : 0 ≤ nd ∧ nd < 256) (h2 : 0 ≤ m ∧ m < 65536) :
    Calls Try.prog 7 #[.agg C, .int .u8 nd, .int .u16 m] w fun e w' => e = .returned (.bool true) ∧ Below w.heap.size w w' := by
  have h11 := h.size
  have HG := Lib.hid hg
  have HA := Lib.hid hw
  have HI := Lib.hid (And.intro h1 h2)
  have HK : Hid (LKit w (w.alloc (.cells C 24)) w.heap.size C p []) := Lib.hid ⟨Pl.new h, (fun q hq => by cases hq), below_alloc w _⟩
  clear hg hw h h1 h2
  go_enter Try.func7, Try.ntmps7
  go_upto_region 1 with fail
  generalize w.alloc (.cells C 24) = w1 at *
  obtain ⟨g1, hg1⟩ : ∃ g, w.heap.size = g := ⟨_, rfl⟩
  rw [hg1] at HK ⊢
  clear hg1
  go_wp2_with fail
  refine (HA.out w1).mono ?_
  rintro e w2 ⟨rfl, hb⟩
  have HK := Lib.hid (HK.out.on hb)
  clear hb
  go_wp2_with (first | ((with_reducible show wpList _ _ _ ((⟨some 12, Op.load 24 (.tmp 3), _, _, _, _⟩ : Oper) :: _) _ _); refine wpList_load_rowG (by rfl) _ (.tmp 3) rfl g1 rfl 24 C (0, 0) _ HK.out.pl.1 Try.underlying24 rfl (by rw [h11]; exact info11) ?_) | fail)
  refine (few_any HK.out.pl.2).mono ?_
  rintro e w3 ⟨rfl, hb⟩
  have HK := Lib.hid (HK.out.on hb)
  clear hb
  obtain ⟨fw, hfw⟩ : ∃ b, few p = b := ⟨_, rfl⟩
  rw [hfw]
  clear hfw
  cases fw
  case false =>
    go_wp2
    go_ret
    exact ⟨rfl, HK.out.below⟩
  go_wp2_with (first | ((with_reducible show wpList _ _ _ ((⟨some 16, Op.load 24 (.tmp 3), _, _, _, _⟩ : Oper) :: _) _ _); refine wpList_load_rowG (by rfl) _ (.tmp 3) rfl g1 rfl 24 C (0, 0) _ HK.out.pl.1 Try.underlying24 rfl (by rw [h11]; exact info11) ?_) | fail)
  refine (check_any HK.out.pl.2).mono ?_
  rintro e w4 ⟨rfl, hb⟩
  have HK := Lib.hid (HK.out.on hb)
  clear hb
  by_cases hok : p.ok
  case neg =>
    rw [Dr.P.chk_no hok]
    clear hok
    go_wp2
    go_ret
    exact ⟨rfl, HK.out.below⟩
  rw [Dr.P.chk_ok hok]
  obtain ⟨Z, hKe⟩ : ∃ Z : Nat, p.slots = (Z : Int) := ⟨p.slots.toNat, by have := hok.2.1.1; omega⟩
  have hK9 : 1 ≤ Z ∧ Z ≤ 9 := by have h1 := hok.2.1; have h2 := hok.1; unfold Dr.P.g1 at h1; unfold Dr.P.g0 at h2; omega
  have HOK := Lib.hid (And.intro hok hKe)
  clear hok hKe
  have hz := Whole.new w4 54 (sb []).toArray
  rw [zero_s9] at hz
  go_upto_region 5 with (first
    | ((with_reducible show wpList _ _ _ ((⟨_, Op.build 54 _, _, _, _, _⟩ : Oper) :: _) _ _); refine wpList_built rfl _ rfl _ rfl (sb []) built_s9 ?_)
    | ((with_reducible show wpList _ _ _ ((⟨_, Op.store 54 _ _, _, _, _, _⟩ : Oper) :: _) _ _); refine wpList_store_row rfl 54 (.tmp 8) (.tmp 21) rfl w4.heap.size (sb []).toArray rfl rfl 54 _ hz info_s9 rfl (by kernel_rfl) ?_)
    | fail)
  have hW4 : Whole ((w4.alloc (.cells #[.bool false, .bool false, .bool false, .bool false, .bool false, .bool false, .bool false, .bool false, .bool false] 54)).setRow w4.heap.size (sb []).toArray) w4.heap.size 54 (sb []).toArray := hz.row _
  have hb4 : Below w4.heap.size w4 ((w4.alloc (.cells #[.bool false, .bool false, .bool false, .bool false, .bool false, .bool false, .bool false, .bool false, .bool false] 54)).setRow w4.heap.size (sb []).toArray) := below_row (below_alloc w4 _) (Nat.le_refl _) _
  generalize (w4.alloc (.cells #[.bool false, .bool false, .bool false, .bool false, .bool false, .bool false, .bool false, .bool false, .bool false] 54)).setRow w4.heap.size (sb []).toArray = w5 at *
  have HK4 := HK
  have H0 : Hid (Whole w5 w4.heap.size 54 (sb (ring (nd + m) Z 0)).toArray ∧ Below w4.heap.size w4 w5) := Lib.hid ⟨hW4, hb4⟩
  obtain ⟨gs, hgs⟩ : ∃ gs, w4.heap.size = gs := ⟨_, rfl⟩
  rw [hgs] at H0 ⊢
  have HGS := Lib.hid hgs
  clear hW4 hb4 hgs hz HK
  go_wp2
  go_loopw [9, 10] (fun v x wr => ∃ i : Nat, i ≤ Z ∧ v = .int .i64 (i : Int) ∧ Hid (Whole wr gs 54 (sb (ring (nd + m) Z i)).toArray ∧ Below gs w4 wr)) (fun v _ _ => Z - (intOf v).toNat)
  case atStart => exact ⟨0, Nat.zero_le _, rfl, H0⟩
  case round =>
    clear H0
    obtain ⟨i, hi, rfl, HJ⟩ := hrel
    have HK := Lib.hid (HK4.out.on (by rw [HGS.out]; exact HJ.out.2))
    have k1 : wr.cell? ⟨g1, 1, none⟩ = some (.int .i64 (Z : Int)) := by rw [← HOK.out.2]; exact HK.out.pl.cells.2.1
    by_cases hlt : i < Z
    · have q1 : (i : Int) < (Z : Int) := by omega
      have hi1 := HI.out.1
      have hi2 := HI.out.2
      have w1' : IntKind.i64.wrap (m + (i : Int)) = m + (i : Int) := by rw [IntKind.wrap_i64]; omega
      have w2' : IntKind.i64.wrap nd = nd := by rw [IntKind.wrap_i64]; omega
      have w3' : IntKind.i64.wrap m = m := by rw [IntKind.wrap_i64]; omega
      go_wp2_with (first | ((with_reducible show wpList _ _ _ ((⟨some 28, Op.load 24 (.tmp 3), _, _, _, _⟩ : Oper) :: _) _ _); refine wpList_load_rowG (by rfl) _ (.tmp 3) rfl g1 rfl 24 C (0, 0) _ HK.out.pl.1 Try.underlying24 rfl (by rw [h11]; exact info11) ?_) | fail)
      refine (HG.out.slot HK.out.pl.2 nd (m + (i : Int)) (by constructor <;> omega) (by constructor <;> omega)).mono ?_
      rintro e wa ⟨rfl, hb⟩
      rw [slot_is HOK.out.1 HOK.out.2 (by omega) (by omega), ← Int.add_assoc]
      have hnew := ring_new (b := nd + m) hK9 hlt
      have hm0 := Int.emod_nonneg (nd + m + (i : Int)) (show (Z : Int) ≠ 0 by omega)
      have hm1 := Int.emod_lt_of_pos (nd + m + (i : Int)) (show (0 : Int) < (Z : Int) by omega)
      have hsucc := ring_succ (nd + m) Z i
      obtain ⟨x, hx⟩ : ∃ x, (nd + m + (i : Int)) % (Z : Int) = x := ⟨_, rfl⟩
      rw [hx] at hnew hm0 hm1 hsucc ⊢
      obtain ⟨X, rfl⟩ : ∃ X : Nat, x = (X : Int) := ⟨x.toNat, by omega⟩
      have hX9 : X < 9 := by omega
      have HJ := Lib.hid (And.intro (HJ.out.1.below hb HJ.out.1.lt) (HJ.out.2.trans (hb.mono (by rw [← HGS.out]; exact HJ.out.2.size))))
      have HK := Lib.hid (HK.out.on hb)
      clear k1 hb hx
      have k1 : wa.cell? ⟨g1, 1, none⟩ = some (.int .i64 (Z : Int)) := by rw [← HOK.out.2]; exact HK.out.pl.cells.2.1
      have c1 : wa.cell? ⟨gs, X, none⟩ = some (.bool false) := by
        have := HJ.out.1.cell X
        rw [List.getElem?_toArray, sb_get _ hX9, decide_eq_false hnew] at this
        exact this
      have f1 : wa.frozen? ⟨gs, X, none⟩ = false := HJ.out.1.frozen X
      have y0 : ¬ ((X : Int) < 0) := by omega
      have y1 : ¬ ((X : Int) ≥ (Z : Int)) := by omega
      have hW := HJ.out.1.set X (.bool true)
      rw [sb_set (l' := ring (nd + m) Z (i + 1)) hX9 hsucc] at hW
      have HV : Hid (Whole (wa.setCell ⟨gs, X, none⟩ (.bool true)) gs 54 (sb (ring (nd + m) Z (i + 1))).toArray ∧ Below gs w4 (wa.setCell ⟨gs, X, none⟩ (.bool true))) := Lib.hid ⟨hW, HJ.out.2.setCell (p := ⟨gs, X, none⟩) (Nat.le_refl _) _⟩
      have qj : IntKind.i64.wrap ((i : Int) + 1) = ((i + 1 : Nat) : Int) := by rw [IntKind.wrap_i64]; omega
      clear hnew hsucc hm0 hm1 hW hi1 hi2 w1' w2' w3'
      go_wp2
      exact ⟨⟨i + 1, by omega, by go_num, HV⟩, by simp [intOf] <;> omega⟩
    · have q1 : ¬ ((i : Int) < (Z : Int)) := by omega
      go_upto_region 12 with fail
      have hi1 := HI.out.1
      have hi2 := HI.out.2
      have hk0 := HK.out.drew
      refine wp_region_held_drew (S := fun wq => LKit w wq g1 C p []) (by kernel_rfl) hk0 (fun hHeld => ?_)
      have HK := Lib.hid hk0
      generalize wr.drew = wd at *
      clear hk0 k1
      have e1 : IntKind.i64.wrap nd = nd := by rw [IntKind.wrap_i64]; omega
      have e2 : IntKind.i64.wrap m = m := by rw [IntKind.wrap_i64]; omega
      have e3 : IntKind.i64.wrap (m + 1) = m + 1 := by rw [IntKind.wrap_i64]; omega
      have e4 : IntKind.i64.wrap (nd + 1) = nd + 1 := by rw [IntKind.wrap_i64]; omega
      have e5 : IntKind.i64.wrap (m + (Z : Int)) = m + (Z : Int) := by rw [IntKind.wrap_i64]; omega
      refine wpAnyH_take (i := 0) (v := .bool true) rfl (by kernel_rfl) (by kernel_rfl) (by kernel_rfl) (fun _ _ _ h => h) (Or.inl ⟨by rfl, (by intro w hSw; (try dsimp only at hSw); go_simp)⟩) (by assumption) ?_
      try simp only [Act.put, List.getElem_toArray, List.getElem_cons_zero, List.getElem_cons_succ, List.setIfInBounds_toArray, List.set_cons_zero, List.set_cons_succ]
      refine wpAnyH_take (i := 1) (v := .bool true) rfl (by kernel_rfl) (by kernel_rfl) (by kernel_rfl) (fun _ _ _ h => h) (Or.inl ⟨by rfl, (by intro w hSw; (try dsimp only at hSw); go_simp)⟩) (by assumption) ?_
      try simp only [Act.put, List.getElem_toArray, List.getElem_cons_zero, List.getElem_cons_succ, List.setIfInBounds_toArray, List.set_cons_zero, List.set_cons_succ]
      refine wpAnyH_take (i := 2) (v := .agg C) rfl (by kernel_rfl) (by kernel_rfl) (by kernel_rfl) (fun _ _ _ h => h) (yields_lp (by rfl) _ rfl g1 rfl C h11 (fun wq hSw => hSw.pl.1)) (by assumption) ?_
      try simp only [Act.put, List.getElem_toArray, List.getElem_cons_zero, List.getElem_cons_succ, List.setIfInBounds_toArray, List.set_cons_zero, List.set_cons_succ]
      refine wpAnyH_take (i := 3) (v := .int .u8 nd) rfl (by kernel_rfl) (by kernel_rfl) (by kernel_rfl) (fun _ _ _ h => h) (Or.inl ⟨by rfl, (by intro w hSw; (try dsimp only at hSw); go_simp)⟩) (by assumption) ?_
      try simp only [Act.put, List.getElem_toArray, List.getElem_cons_zero, List.getElem_cons_succ, List.setIfInBounds_toArray, List.set_cons_zero, List.set_cons_succ]
      refine wpAnyH_take (i := 4) (v := .int .i64 nd) rfl (by kernel_rfl) (by kernel_rfl) (by kernel_rfl) (fun _ _ _ h => h) (Or.inl ⟨by rfl, (by intro w hSw; (try dsimp only at hSw); go_simp)⟩) (by assumption) ?_
      try simp only [Act.put, List.getElem_toArray, List.getElem_cons_zero, List.getElem_cons_succ, List.setIfInBounds_toArray, List.set_cons_zero, List.set_cons_succ]
      refine wpAnyH_take (i := 5) (v := .int .u16 m) rfl (by kernel_rfl) (by kernel_rfl) (by kernel_rfl) (fun _ _ _ h => h) (Or.inl ⟨by rfl, (by intro w hSw; (try dsimp only at hSw); go_simp)⟩) (by assumption) ?_
      try simp only [Act.put, List.getElem_toArray, List.getElem_cons_zero, List.getElem_cons_succ, List.setIfInBounds_toArray, List.set_cons_zero, List.set_cons_succ]
      refine wpAnyH_take (i := 6) (v := .int .i64 m) rfl (by kernel_rfl) (by kernel_rfl) (by kernel_rfl) (fun _ _ _ h => h) (Or.inl ⟨by rfl, (by intro w hSw; (try dsimp only at hSw); go_simp)⟩) (by assumption) ?_
      try simp only [Act.put, List.getElem_toArray, List.getElem_cons_zero, List.getElem_cons_succ, List.setIfInBounds_toArray, List.set_cons_zero, List.set_cons_succ]
      refine wpAnyH_take (i := 7) (v := .int .i64 (m + 1)) rfl (by kernel_rfl) (by kernel_rfl) (by kernel_rfl) (fun _ _ _ h => h) (Or.inl ⟨by rfl, (by intro w hSw; (try dsimp only at hSw); go_simp)⟩) (by assumption) ?_
      try simp only [Act.put, List.getElem_toArray, List.getElem_cons_zero, List.getElem_cons_succ, List.setIfInBounds_toArray, List.set_cons_zero, List.set_cons_succ]
      refine wpAnyH_take (i := 9) (v := .agg C) rfl (by kernel_rfl) (by kernel_rfl) (by kernel_rfl) (fun _ _ _ h => h) (yields_lp (by rfl) _ rfl g1 rfl C h11 (fun wq hSw => hSw.pl.1)) (by assumption) ?_
      try simp only [Act.put, List.getElem_toArray, List.getElem_cons_zero, List.getElem_cons_succ, List.setIfInBounds_toArray, List.set_cons_zero, List.set_cons_succ]
      refine wpAnyH_take (i := 10) (v := .int .u8 nd) rfl (by kernel_rfl) (by kernel_rfl) (by kernel_rfl) (fun _ _ _ h => h) (Or.inl ⟨by rfl, (by intro w hSw; (try dsimp only at hSw); go_simp)⟩) (by assumption) ?_
      try simp only [Act.put, List.getElem_toArray, List.getElem_cons_zero, List.getElem_cons_succ, List.setIfInBounds_toArray, List.set_cons_zero, List.set_cons_succ]
      refine wpAnyH_take (i := 11) (v := .int .i64 nd) rfl (by kernel_rfl) (by kernel_rfl) (by kernel_rfl) (fun _ _ _ h => h) (Or.inl ⟨by rfl, (by intro w hSw; (try dsimp only at hSw); go_simp)⟩) (by assumption) ?_
      try simp only [Act.put, List.getElem_toArray, List.getElem_cons_zero, List.getElem_cons_succ, List.setIfInBounds_toArray, List.set_cons_zero, List.set_cons_succ]
      refine wpAnyH_take (i := 12) (v := .int .i64 (nd + 1)) rfl (by kernel_rfl) (by kernel_rfl) (by kernel_rfl) (fun _ _ _ h => h) (Or.inl ⟨by rfl, (by intro w hSw; (try dsimp only at hSw); go_simp)⟩) (by assumption) ?_
      try simp only [Act.put, List.getElem_toArray, List.getElem_cons_zero, List.getElem_cons_succ, List.setIfInBounds_toArray, List.set_cons_zero, List.set_cons_succ]
      refine wpAnyH_take (i := 13) (v := .int .u16 m) rfl (by kernel_rfl) (by kernel_rfl) (by kernel_rfl) (fun _ _ _ h => h) (Or.inl ⟨by rfl, (by intro w hSw; (try dsimp only at hSw); go_simp)⟩) (by assumption) ?_
      try simp only [Act.put, List.getElem_toArray, List.getElem_cons_zero, List.getElem_cons_succ, List.setIfInBounds_toArray, List.set_cons_zero, List.set_cons_succ]
      refine wpAnyH_take (i := 14) (v := .int .i64 m) rfl (by kernel_rfl) (by kernel_rfl) (by kernel_rfl) (fun _ _ _ h => h) (Or.inl ⟨by rfl, (by intro w hSw; (try dsimp only at hSw); go_simp)⟩) (by assumption) ?_
      try simp only [Act.put, List.getElem_toArray, List.getElem_cons_zero, List.getElem_cons_succ, List.setIfInBounds_toArray, List.set_cons_zero, List.set_cons_succ]
      refine wpAnyH_ready (rs := [8]) (by kernel_rfl) (by simp) (AllReadyH.cons rfl (fun K hK => ?_) AllReadyH.nil)
      try simp only [List.getElem_toArray, List.getElem_cons_zero, List.getElem_cons_succ]
      go_simp
      refine (HG.out.slot HK.out.pl.2 nd (m + 1) (by constructor <;> omega) (by constructor <;> omega)).mono ?_
      rintro e wa ⟨rfl, hb⟩
      rw [slot_is HOK.out.1 HOK.out.2 (by omega) (by omega)]
      have HK := Lib.hid (HK.out.on hb)
      clear hb hHeld
      have hk := HK.out
      go_wp2_with fail
      refine hK.out _ _ hk (fun hHeld => ?_)
      clear hK K hHeld
      try simp only [Act.put, List.getElem_toArray, List.getElem_cons_zero, List.getElem_cons_succ, List.setIfInBounds_toArray, List.set_cons_zero, List.set_cons_succ]
      have hHeld := hk
      clear hk
      refine wpAnyH_ready (rs := [15]) (by kernel_rfl) (by simp) (AllReadyH.cons rfl (fun K hK => ?_) AllReadyH.nil)
      try simp only [List.getElem_toArray, List.getElem_cons_zero, List.getElem_cons_succ]
      go_simp
      refine (HG.out.slot HK.out.pl.2 (nd + 1) m (by constructor <;> omega) (by constructor <;> omega)).mono ?_
      rintro e wb ⟨rfl, hb⟩
      rw [slot_is HOK.out.1 HOK.out.2 (by omega) (by omega)]
      have HK := Lib.hid (HK.out.on hb)
      clear hb hHeld
      have hk := HK.out
      go_wp2_with fail
      refine hK.out _ _ hk (fun hHeld => ?_)
      clear hK K hHeld
      try simp only [Act.put, List.getElem_toArray, List.getElem_cons_zero, List.getElem_cons_succ, List.setIfInBounds_toArray, List.set_cons_zero, List.set_cons_succ]
      have hHeld := hk
      clear hk
      have q1 : ((nd + (m + 1)) % (Z : Int) == (nd + 1 + m) % (Z : Int)) = true := by rw [show nd + (m + 1) = nd + 1 + m by omega]; simp
      refine wpAnyH_take (i := 16) (v := .bool true) rfl (by kernel_rfl) (by kernel_rfl) (by kernel_rfl) (fun _ _ _ h => h) (Or.inl ⟨by rfl, (by intro w hSw; (try dsimp only at hSw); go_simp)⟩) (by assumption) ?_
      try simp only [Act.put, List.getElem_toArray, List.getElem_cons_zero, List.getElem_cons_succ, List.setIfInBounds_toArray, List.set_cons_zero, List.set_cons_succ]
      clear q1
      refine wpAnyH_take (i := 17) (v := .bool true) rfl (by kernel_rfl) (by kernel_rfl) (by kernel_rfl) (fun _ _ _ h => h) (Or.inl ⟨by rfl, (by intro w hSw; (try dsimp only at hSw); go_simp)⟩) (by assumption) ?_
      try simp only [Act.put, List.getElem_toArray, List.getElem_cons_zero, List.getElem_cons_succ, List.setIfInBounds_toArray, List.set_cons_zero, List.set_cons_succ]
      refine wpAnyH_take (i := 18) (v := .bool true) rfl (by kernel_rfl) (by kernel_rfl) (by kernel_rfl) (fun _ _ _ h => h) (Or.inl ⟨by rfl, (by intro w hSw; (try dsimp only at hSw); go_simp)⟩) (by assumption) ?_
      try simp only [Act.put, List.getElem_toArray, List.getElem_cons_zero, List.getElem_cons_succ, List.setIfInBounds_toArray, List.set_cons_zero, List.set_cons_succ]
      refine wpAnyH_take (i := 19) (v := .agg C) rfl (by kernel_rfl) (by kernel_rfl) (by kernel_rfl) (fun _ _ _ h => h) (yields_lp (by rfl) _ rfl g1 rfl C h11 (fun wq hSw => hSw.pl.1)) (by assumption) ?_
      try simp only [Act.put, List.getElem_toArray, List.getElem_cons_zero, List.getElem_cons_succ, List.setIfInBounds_toArray, List.set_cons_zero, List.set_cons_succ]
      refine wpAnyH_take (i := 20) (v := .int .u8 nd) rfl (by kernel_rfl) (by kernel_rfl) (by kernel_rfl) (fun _ _ _ h => h) (Or.inl ⟨by rfl, (by intro w hSw; (try dsimp only at hSw); go_simp)⟩) (by assumption) ?_
      try simp only [Act.put, List.getElem_toArray, List.getElem_cons_zero, List.getElem_cons_succ, List.setIfInBounds_toArray, List.set_cons_zero, List.set_cons_succ]
      refine wpAnyH_take (i := 21) (v := .int .i64 nd) rfl (by kernel_rfl) (by kernel_rfl) (by kernel_rfl) (fun _ _ _ h => h) (Or.inl ⟨by rfl, (by intro w hSw; (try dsimp only at hSw); go_simp)⟩) (by assumption) ?_
      try simp only [Act.put, List.getElem_toArray, List.getElem_cons_zero, List.getElem_cons_succ, List.setIfInBounds_toArray, List.set_cons_zero, List.set_cons_succ]
      refine wpAnyH_take (i := 22) (v := .int .u16 m) rfl (by kernel_rfl) (by kernel_rfl) (by kernel_rfl) (fun _ _ _ h => h) (Or.inl ⟨by rfl, (by intro w hSw; (try dsimp only at hSw); go_simp)⟩) (by assumption) ?_
      try simp only [Act.put, List.getElem_toArray, List.getElem_cons_zero, List.getElem_cons_succ, List.setIfInBounds_toArray, List.set_cons_zero, List.set_cons_succ]
      refine wpAnyH_take (i := 23) (v := .int .i64 m) rfl (by kernel_rfl) (by kernel_rfl) (by kernel_rfl) (fun _ _ _ h => h) (Or.inl ⟨by rfl, (by intro w hSw; (try dsimp only at hSw); go_simp)⟩) (by assumption) ?_
      try simp only [Act.put, List.getElem_toArray, List.getElem_cons_zero, List.getElem_cons_succ, List.setIfInBounds_toArray, List.set_cons_zero, List.set_cons_succ]
      refine wpAnyH_take (i := 24) (v := .pointer (some ⟨g1, 1, none⟩)) rfl (by kernel_rfl) (by kernel_rfl) (by kernel_rfl) (fun _ _ _ h => h) (Or.inl ⟨by rfl, (by intro w hSw; (try dsimp only at hSw); go_simp)⟩) (by assumption) ?_
      try simp only [Act.put, List.getElem_toArray, List.getElem_cons_zero, List.getElem_cons_succ, List.setIfInBounds_toArray, List.set_cons_zero, List.set_cons_succ]
      refine wpAnyH_take (i := 25) (v := .int .i64 (Z : Int)) rfl (by kernel_rfl) (by kernel_rfl) (by kernel_rfl) (fun _ _ _ h => h) (Or.inl ⟨by rfl, (by intro wq hSw; have hq : wq.cell? ⟨g1, 1, none⟩ = some (.int .i64 p.slots) := hSw.pl.cells.2.1; rw [HOK.out.2] at hq; clear hSw; go_simp)⟩) (by assumption) ?_
      try simp only [Act.put, List.getElem_toArray, List.getElem_cons_zero, List.getElem_cons_succ, List.setIfInBounds_toArray, List.set_cons_zero, List.set_cons_succ]
      refine wpAnyH_take (i := 26) (v := .int .i64 (m + (Z : Int))) rfl (by kernel_rfl) (by kernel_rfl) (by kernel_rfl) (fun _ _ _ h => h) (Or.inl ⟨by rfl, (by intro w hSw; (try dsimp only at hSw); go_simp)⟩) (by assumption) ?_
      try simp only [Act.put, List.getElem_toArray, List.getElem_cons_zero, List.getElem_cons_succ, List.setIfInBounds_toArray, List.set_cons_zero, List.set_cons_succ]
      refine wpAnyH_take (i := 28) (v := .agg C) rfl (by kernel_rfl) (by kernel_rfl) (by kernel_rfl) (fun _ _ _ h => h) (yields_lp (by rfl) _ rfl g1 rfl C h11 (fun wq hSw => hSw.pl.1)) (by assumption) ?_
      try simp only [Act.put, List.getElem_toArray, List.getElem_cons_zero, List.getElem_cons_succ, List.setIfInBounds_toArray, List.set_cons_zero, List.set_cons_succ]
      refine wpAnyH_take (i := 29) (v := .int .u8 nd) rfl (by kernel_rfl) (by kernel_rfl) (by kernel_rfl) (fun _ _ _ h => h) (Or.inl ⟨by rfl, (by intro w hSw; (try dsimp only at hSw); go_simp)⟩) (by assumption) ?_
      try simp only [Act.put, List.getElem_toArray, List.getElem_cons_zero, List.getElem_cons_succ, List.setIfInBounds_toArray, List.set_cons_zero, List.set_cons_succ]
      refine wpAnyH_take (i := 30) (v := .int .i64 nd) rfl (by kernel_rfl) (by kernel_rfl) (by kernel_rfl) (fun _ _ _ h => h) (Or.inl ⟨by rfl, (by intro w hSw; (try dsimp only at hSw); go_simp)⟩) (by assumption) ?_
      try simp only [Act.put, List.getElem_toArray, List.getElem_cons_zero, List.getElem_cons_succ, List.setIfInBounds_toArray, List.set_cons_zero, List.set_cons_succ]
      refine wpAnyH_take (i := 31) (v := .int .u16 m) rfl (by kernel_rfl) (by kernel_rfl) (by kernel_rfl) (fun _ _ _ h => h) (Or.inl ⟨by rfl, (by intro w hSw; (try dsimp only at hSw); go_simp)⟩) (by assumption) ?_
      try simp only [Act.put, List.getElem_toArray, List.getElem_cons_zero, List.getElem_cons_succ, List.setIfInBounds_toArray, List.set_cons_zero, List.set_cons_succ]
      refine wpAnyH_take (i := 32) (v := .int .i64 m) rfl (by kernel_rfl) (by kernel_rfl) (by kernel_rfl) (fun _ _ _ h => h) (Or.inl ⟨by rfl, (by intro w hSw; (try dsimp only at hSw); go_simp)⟩) (by assumption) ?_
      try simp only [Act.put, List.getElem_toArray, List.getElem_cons_zero, List.getElem_cons_succ, List.setIfInBounds_toArray, List.set_cons_zero, List.set_cons_succ]
      refine wpAnyH_ready (rs := [27]) (by kernel_rfl) (by simp) (AllReadyH.cons rfl (fun K hK => ?_) AllReadyH.nil)
      try simp only [List.getElem_toArray, List.getElem_cons_zero, List.getElem_cons_succ]
      go_simp
      refine (HG.out.slot HK.out.pl.2 nd (m + (Z : Int)) (by constructor <;> omega) (by constructor <;> omega)).mono ?_
      rintro e wx ⟨rfl, hb⟩
      rw [slot_is HOK.out.1 HOK.out.2 (by omega) (by omega)]
      have HK := Lib.hid (HK.out.on hb)
      clear hb hHeld
      have hk := HK.out
      go_wp2_with fail
      refine hK.out _ _ hk (fun hHeld => ?_)
      clear hK K hHeld
      try simp only [Act.put, List.getElem_toArray, List.getElem_cons_zero, List.getElem_cons_succ, List.setIfInBounds_toArray, List.set_cons_zero, List.set_cons_succ]
      have hHeld := hk
      clear hk
      refine wpAnyH_ready (rs := [33]) (by kernel_rfl) (by simp) (AllReadyH.cons rfl (fun K hK => ?_) AllReadyH.nil)
      try simp only [List.getElem_toArray, List.getElem_cons_zero, List.getElem_cons_succ]
      go_simp
      refine (HG.out.slot HK.out.pl.2 nd m (by constructor <;> omega) (by constructor <;> omega)).mono ?_
      rintro e wy ⟨rfl, hb⟩
      rw [slot_is HOK.out.1 HOK.out.2 (by omega) (by omega)]
      have HK := Lib.hid (HK.out.on hb)
      clear hb hHeld
      have hk := HK.out
      go_wp2_with fail
      refine hK.out _ _ hk (fun hHeld => ?_)
      clear hK K hHeld
      try simp only [Act.put, List.getElem_toArray, List.getElem_cons_zero, List.getElem_cons_succ, List.setIfInBounds_toArray, List.set_cons_zero, List.set_cons_succ]
      have hHeld := hk
      clear hk
      have q1 : ((nd + (m + (Z : Int))) % (Z : Int) == (nd + m) % (Z : Int)) = true := by rw [← Int.add_assoc, Int.add_emod_right]; simp
      refine wpAnyH_take (i := 34) (v := .bool true) rfl (by kernel_rfl) (by kernel_rfl) (by kernel_rfl) (fun _ _ _ h => h) (Or.inl ⟨by rfl, (by intro w hSw; (try dsimp only at hSw); go_simp)⟩) (by assumption) ?_
      try simp only [Act.put, List.getElem_toArray, List.getElem_cons_zero, List.getElem_cons_succ, List.setIfInBounds_toArray, List.set_cons_zero, List.set_cons_succ]
      clear q1
      refine wpAnyH_take (i := 35) (v := .bool true) rfl (by kernel_rfl) (by kernel_rfl) (by kernel_rfl) (fun _ _ _ h => h) (Or.inl ⟨by rfl, (by intro w hSw; (try dsimp only at hSw); go_simp)⟩) (by assumption) ?_
      try simp only [Act.put, List.getElem_toArray, List.getElem_cons_zero, List.getElem_cons_succ, List.setIfInBounds_toArray, List.set_cons_zero, List.set_cons_succ]
      refine wpAnyH_take (i := 36) (v := .bool true) rfl (by kernel_rfl) (by kernel_rfl) (by kernel_rfl) (fun _ _ _ h => h) (Or.inl ⟨by rfl, (by intro w hSw; (try dsimp only at hSw); go_simp)⟩) (by assumption) ?_
      try simp only [Act.put, List.getElem_toArray, List.getElem_cons_zero, List.getElem_cons_succ, List.setIfInBounds_toArray, List.set_cons_zero, List.set_cons_succ]
      refine wpAnyH_done (by kernel_rfl) ?_ _
      clear hHeld e1 e2 e3 e4 e5
      go_wp2
      go_ret
      exact ⟨rfl, HK.out.below⟩
end Go.Proofs.Ytegdopbiiddamaa
