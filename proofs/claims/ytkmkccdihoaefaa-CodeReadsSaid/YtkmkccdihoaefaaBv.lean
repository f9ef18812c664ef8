/-
  The walk of CodeBack.
-/
import Derived.Test.YtkmkccdihoaefaaBk
import Derived.Test.YtkmkccdihoaefaaOp
import Derived.Deep.Cut
import Derived.Laws.CopyRow
import Derived.Laws.CopyOwn
set_option linter.unusedSimpArgs false
namespace Go.Proofs.Ytkmkccdihoaefaa
open Go.RowKit
theorem yields_part {ops : Array Oper} {S : World → Prop} {o : Oper} {a : Act} (hw : Region.wanted o (yielded ops a.tmps) = true) (parts : List (Nat × Operand)) (ho : o.op = .build 28 parts.toArray)
    (vs : List (Nat × Value)) (hv : parts.map (fun q => (q.1, a.eval q.2)) = vs) (cells : List Value) (hc : Try.prog.built 28 vs = some cells.toArray) : YieldsIf Try.prog ops S o (.agg cells.toArray) a := by
  have e : (parts.toArray.map fun (i, x) => (i, a.eval x)).toList = vs := by rw [← hv]; simp
  refine Or.inl ⟨hw, fun w _ => ?_⟩
  unfold execOp
  simp only [ho, Sem.run_bind, run_build w 28 _ cells.toArray (by rw [e, hc]), Result.andThen_ok]
  rfl
theorem run_store_part {P : Program} (w : World) (g o : Nat) (n ty : TypeId) (cur cells : List Value) (hg : Whole w g n cur.toArray) (hi : (P.info? ty).map (·.size) = some cells.length) (h1 : ∀ v ∈ cells, v.oneCell' = true) (hf : o + cells.length ≤ cur.length) :
    (storeVar ty ⟨g, o, none⟩ (.agg cells.toArray)).run P w = .ok () (w.setRow g (splice cur o cells).toArray) := by
  have := run_storeCells_at (P := P) g o n cells 0 cur.toArray w hg (by simp; omega) h1
  cases hq : P.info? ty with
  | none => simp [hq] at hi
  | some i =>
    have hs : cells.length = i.size := by simp [hq] at hi; omega
    simp only [Nat.add_zero] at this
    simp [storeVar, sizeOf, typeInfo, hq, Value.cells, hs, this, splice]
theorem wp_store_part {P : Program} {op : Oper} {a : Act} {w : World} {K : Act → World → Prop} {Q : Exit → Act → World → Prop} {n : TypeId} {cur : List Value} (ty : TypeId) (x y : Operand) (ho : op.op = .store ty x y)
    (g o : Nat) (cells : List Value) (hx : a.eval x = .pointer (some ⟨g, o, none⟩)) (hy : a.eval y = .agg cells.toArray)
    (hg : Whole w g n cur.toArray) (hi : (P.info? ty).map (·.size) = some cells.length) (h1 : ∀ v ∈ cells, v.oneCell' = true) (hf : o + cells.length ≤ cur.length)
    (h : K (a.put op.dst undef) (w.setRow g (splice cur o cells).toArray)) : Oper.wp P op a w K Q := by
  unfold Oper.wp execOp
  simp only [ho, hx, hy, Instr.storeAt, Instr.sureAddr, Sem.run_bind, Sem.run_pure, Result.andThen_ok, run_store_part w g o n ty cur cells hg hi h1 hf]
  exact h
theorem wpList_store_part {P : Program} {ops : Array Oper} {rest : List Oper} {op : Oper} {a : Act} {w : World} {Q : Exit → Act → World → Prop} (hgd : op.guard = none) {n : TypeId} {cur : List Value} (ty : TypeId) (x y : Operand) (ho : op.op = .store ty x y)
    (g o : Nat) (cells : List Value) (hx : a.eval x = .pointer (some ⟨g, o, none⟩)) (hy : a.eval y = .agg cells.toArray)
    (hg : Whole w g n cur.toArray) (hi : (P.info? ty).map (·.size) = some cells.length) (h1 : ∀ v ∈ cells, v.oneCell' = true) (hf : o + cells.length ≤ cur.length)
    (h : wpList P ops Q rest (a.put op.dst undef) (w.setRow g (splice cur o cells).toArray)) : wpList P ops Q (op :: rest) a w :=
  wpList_plain hgd fun _ hK => wp_store_part ty x y ho g o cells hx hy hg hi h1 hf (hK _ _ h)
theorem splice_hash {k : Int} {h h' : List Int} (h1 : h.length = 32) (h2 : h'.length = 32) : splice (pcells k 0 0 0 nilv h) 5 (nums h') = pcells k 0 0 0 nilv h' := by
  unfold splice pcells
  rw [nums_len, h2]
  have : (nums h).length = 32 := by rw [nums_len, h1]
  simp [this]
theorem alike_refl (ps : List Prt) : AlikeAll ps ps := ⟨rfl, fun i p q hp hq => by rw [hp] at hq; injection hq with hq; subst hq; exact ⟨rfl, rfl, rfl, rfl⟩⟩
theorem if_wanted {c : Bool} {p q : Prop} (h : c = true) (hp : p) : if c = true then p else q := by rw [if_pos h]; exact hp
theorem own_slice {w : World} {base n : Nat} {v : Value} {l : List Int} (h : w.ownsRow base 5 1 v n (nums l)) (hb : Cd.Byt l) : ∃ a c, v = .slice a n c ∧ Txt w (base ≤ ·) a n c l := Txt.own h hb
set_option maxHeartbeats 4000000 in
set_option maxRecDepth 100000 in
theorem back_walk (a0 : Option Addr) (len0 cap0 : Nat) (ps : List Prt) (y : Int) (w : World) (w0 : Prts w (· < w.heap.size) a0 len0 ps) (w1 : (Lit.int .u8 y).wf = true) :
    Calls Try.prog 6 #[.slice a0 len0 cap0, .int .u8 y] w fun e w' => e = .returned (.bool true) ∧ Below w.heap.size w w' := by
  obtain ⟨i0, hi0, hz0, hz1, hz2⟩ := info_parts part_info
  have HI := Lib.hid (And.intro hi0 (And.intro hz0 (And.intro hz1 hz2)))
  clear hi0 hz0 hz1 hz2
  have H := Lib.hid w0
  have HY := Lib.hid w1
  clear w0 w1
  by_cases hfew : Few ps
  · have HF := Lib.hid hfew
    have hn20 : len0 ≤ 20 := by have := hfew.1; have := H.out.1; omega
    clear hfew
    go_enter Try.func6, Try.ntmps6
    go_wp2_with fail
    refine (awake_any _).mono ?_; rintro e w1 ⟨rfl, hg⟩
    have HB1 := Lib.hid hg
    clear hg
    go_wp2_with fail
    refine (few_any (H.out.below HB1.out (fun _ _ h => h))).mono ?_
    rintro e w2 ⟨rfl, rfl⟩
    rw [fewB_true.2 HF.out]
    have HS : Hid (BackAt w ps (.slice none 0 0) (.slice none 0 0) (.int .i64 0) w1) := Lib.hid ⟨0, [], [], Nat.zero_le _, rfl, Nat.le_refl _, Nat.le_refl _, rfl, rfl, Out.nil _ _ _, Out.nil _ _ _, (fun b hb => by simp [Value.ownBlock] at hb), HB1.out⟩
    clear HB1
    go_wp2
    go_loopw [6, 7, 8] (fun s6 s7 s8 wr => BackAt w ps s6 s7 s8 wr) (fun _ _ i _ => len0 - (intOf i).toNat)
    case atStart => exact HS.out
    case round =>
      clear HS
      obtain ⟨k, qs, rs, hk, rfl, hqk, hrk, hqm, hrm, hrel⟩ := hrel
      have HQM := Lib.hid hqm
      have HRM := Lib.hid hrm
      have HR := Lib.hid hrel
      have hz := hrel.old.size
      have HLEN := Lib.hid H.out.1
      have hk' : k ≤ len0 := by have := HLEN.out; omega
      clear hqm hrm hrel hk
      by_cases c : k < len0
      · obtain ⟨b, off, p, rfl, hlt, _, hp, hmem, hok, hat⟩ := H.out.at_ c
        have hat' := hat.keep (HR.out.old.block b hlt) hz (fun b _ h => HR.out.old.block b h)
        have hk0 := hat'.hk
        have c1 := hat'.hn
        have HAT := Lib.hid hat'
        have HOK := Lib.hid hok
        have HBL := Lib.hid (HF.out.2 p hmem)
        have HP := Lib.hid hp
        clear hat hat' hok hmem hp
        by_cases hv : Valid p
        · have HV := Lib.hid hv
          have hv1 : ¬ p.k < 1 := by have := hv.1; omega
          have hv2 : ¬ 3 < p.k := by have := hv.2; omega
          have hq1 : decide (p.k < 1) = false := by simp [hv1]
          have hq2 : decide (3 < p.k) = false := by simp [hv2]
          clear hv
          generalize hpk : p.k = pk at *
          generalize hpn : p.n = pn at *
          have HPK := Lib.hid hpk
          have HPN := Lib.hid hpn
          clear hpk hpn
          go_wp2_with (first
            | ((with_reducible show wpList _ _ _ ((⟨_, Op.build 28 _, _, _, _, _⟩ : Oper) :: _) _ _); refine wpList_part rfl _ rfl [(0, .int .i64 _)] rfl _ (built_k _) ?_)
            | ((with_reducible show wpList _ _ _ ((⟨_, Op.store 28 _ _, _, _, _, _⟩ : Oper) :: _) _ _); rw [zeroP_lit]; refine wpList_store_row rfl _ (.tmp 9) (.tmp 49) rfl wr.heap.size (pcells pk 0 0 0 nilv zero32).toArray rfl rfl 28 _ (Whole.new wr _ _) (by rw [psize zero_len]; exact info37) (by rw [psize zero_len, psize zero_len]) (pcells_one rfl) ?_; rw [World.setRow_alloc_new]))
          have hw1 : Whole (wr.alloc (.cells (pcells pk 0 0 0 nilv zero32).toArray 28)) wr.heap.size 28 (pcells pk 0 0 0 nilv zero32).toArray := Whole.new _ _ _
          have hb1 := below_alloc wr (.cells (pcells pk 0 0 0 nilv zero32).toArray 28)
          have hs1 : (wr.alloc (.cells (pcells pk 0 0 0 nilv zero32).toArray 28)).heap.size = wr.heap.size + 1 := by simp
          generalize wr.alloc (.cells (pcells pk 0 0 0 nilv zero32).toArray 28) = w3 at *
          have hat4 := HAT.out.keep (w' := w3.drew) (hb1.drew.block b (Nat.lt_of_lt_of_le hlt hz)) hb1.size (fun b hb _ => hb1.drew.block b hb)
          have k4 := hat4.hk
          have n4 := hat4.hn
          rw [HPK.out] at k4
          rw [HPN.out] at n4
          have hw4 : Whole w3.drew wr.heap.size 28 (pcells pk 0 0 0 nilv zero32).toArray := hw1
          have hb4 : Below wr.heap.size wr w3.drew := hb1.drew
          have hs4 : w3.drew.heap.size = wr.heap.size + 1 := hs1
          clear hw1 hb1 hs1 hk0 c1
          have HS4 := Lib.hid hs4
          have hb44 : b < w3.drew.heap.size := by omega
          clear hs4
          refine wp_region_held_drew (S := fun w' => w'.cell? ⟨b, off + k * 37, none⟩ = some (.int .i64 pk) ∧ w'.cell? ⟨b, off + k * 37 + 1, none⟩ = some (.int .i64 pn)) (by kernel_rfl) ⟨k4, n4⟩ (fun hHeld => ?_)
          generalize w3.drew = w4 at *
          refine wpAnyH_take (i := 0) (v := .slice (some ⟨b, off, none⟩) len0 cap0) rfl (by kernel_rfl) (by kernel_rfl) (by kernel_rfl) (fun _ _ _ h => h) (Or.inl ⟨by rfl, (by intro w hSw; (try dsimp only at hSw); go_simp)⟩) (by assumption) ?_
          try simp only [Act.put, List.getElem_toArray, List.getElem_cons_zero, List.getElem_cons_succ, List.setIfInBounds_toArray, List.set_cons_zero, List.set_cons_succ]
          refine wpAnyH_take (i := 1) (v := .int .i64 (k : Int)) rfl (by kernel_rfl) (by kernel_rfl) (by kernel_rfl) (fun _ _ _ h => h) (Or.inl ⟨by rfl, (by intro w hSw; (try dsimp only at hSw); go_simp)⟩) (by assumption) ?_
          try simp only [Act.put, List.getElem_toArray, List.getElem_cons_zero, List.getElem_cons_succ, List.setIfInBounds_toArray, List.set_cons_zero, List.set_cons_succ]
          refine wpAnyH_take (i := 2) (v := .pointer (some ⟨b, off + k * 37, none⟩)) rfl (by kernel_rfl) (by kernel_rfl) (by kernel_rfl) (fun _ _ _ h => h) (Or.inl ⟨by rfl, (by intro w hSw; (try dsimp only at hSw); go_simp)⟩) (by assumption) ?_
          try simp only [Act.put, List.getElem_toArray, List.getElem_cons_zero, List.getElem_cons_succ, List.setIfInBounds_toArray, List.set_cons_zero, List.set_cons_succ]
          refine wpAnyH_take (i := 3) (v := .pointer (some ⟨b, off + k * 37, none⟩)) rfl (by kernel_rfl) (by kernel_rfl) (by kernel_rfl) (fun _ _ _ h => h) (Or.inl ⟨by rfl, (by intro w hSw; (try dsimp only at hSw); go_simp)⟩) (by assumption) ?_
          try simp only [Act.put, List.getElem_toArray, List.getElem_cons_zero, List.getElem_cons_succ, List.setIfInBounds_toArray, List.set_cons_zero, List.set_cons_succ]
          refine wpAnyH_take (i := 4) (v := .int .i64 pk) rfl (by kernel_rfl) (by kernel_rfl) (by kernel_rfl) (fun _ _ _ h => h) (Or.inl ⟨by rfl, (by intro w hSw; (try dsimp only at hSw); go_simp)⟩) (by assumption) ?_
          try simp only [Act.put, List.getElem_toArray, List.getElem_cons_zero, List.getElem_cons_succ, List.setIfInBounds_toArray, List.set_cons_zero, List.set_cons_succ]
          refine wpAnyH_take (i := 5) (v := .slice (some ⟨b, off, none⟩) len0 cap0) rfl (by kernel_rfl) (by kernel_rfl) (by kernel_rfl) (fun _ _ _ h => h) (Or.inl ⟨by rfl, (by intro w hSw; (try dsimp only at hSw); go_simp)⟩) (by assumption) ?_
          try simp only [Act.put, List.getElem_toArray, List.getElem_cons_zero, List.getElem_cons_succ, List.setIfInBounds_toArray, List.set_cons_zero, List.set_cons_succ]
          refine wpAnyH_take (i := 6) (v := .int .i64 (k : Int)) rfl (by kernel_rfl) (by kernel_rfl) (by kernel_rfl) (fun _ _ _ h => h) (Or.inl ⟨by rfl, (by intro w hSw; (try dsimp only at hSw); go_simp)⟩) (by assumption) ?_
          try simp only [Act.put, List.getElem_toArray, List.getElem_cons_zero, List.getElem_cons_succ, List.setIfInBounds_toArray, List.set_cons_zero, List.set_cons_succ]
          refine wpAnyH_take (i := 7) (v := .pointer (some ⟨b, off + k * 37, none⟩)) rfl (by kernel_rfl) (by kernel_rfl) (by kernel_rfl) (fun _ _ _ h => h) (Or.inl ⟨by rfl, (by intro w hSw; (try dsimp only at hSw); go_simp)⟩) (by assumption) ?_
          try simp only [Act.put, List.getElem_toArray, List.getElem_cons_zero, List.getElem_cons_succ, List.setIfInBounds_toArray, List.set_cons_zero, List.set_cons_succ]
          refine wpAnyH_take (i := 8) (v := .pointer (some ⟨b, off + k * 37 + 1, none⟩)) rfl (by kernel_rfl) (by kernel_rfl) (by kernel_rfl) (fun _ _ _ h => h) (Or.inl ⟨by rfl, (by intro w hSw; (try dsimp only at hSw); go_simp)⟩) (by assumption) ?_
          try simp only [Act.put, List.getElem_toArray, List.getElem_cons_zero, List.getElem_cons_succ, List.setIfInBounds_toArray, List.set_cons_zero, List.set_cons_succ]
          refine wpAnyH_take (i := 9) (v := .int .i64 pn) rfl (by kernel_rfl) (by kernel_rfl) (by kernel_rfl) (fun _ _ _ h => h) (Or.inl ⟨by rfl, (by intro w hSw; (try dsimp only at hSw); go_simp)⟩) (by assumption) ?_
          try simp only [Act.put, List.getElem_toArray, List.getElem_cons_zero, List.getElem_cons_succ, List.setIfInBounds_toArray, List.set_cons_zero, List.set_cons_succ]
          refine wpAnyH_take (i := 10) (v := .agg (pcells pk 0 pn 9223372036854775807 nilv zero32).toArray) rfl (by kernel_rfl) (by kernel_rfl) (by kernel_rfl) (fun _ _ _ h => h) (yields_part (by rfl) [(0, .tmp 54), (2, .tmp 59), (3, .const (.int .i64 9223372036854775807))] rfl _ rfl _ (built_klm _ _ _)) (by assumption) ?_
          try simp only [Act.put, List.getElem_toArray, List.getElem_cons_zero, List.getElem_cons_succ, List.setIfInBounds_toArray, List.set_cons_zero, List.set_cons_succ]
          have hat5 := hat4.keep (w' := w4.alloc (.cells (pcells pk 0 pn 9223372036854775807 nilv zero32).toArray 28)) (Below.heap_alloc _ _ _ hb44) (by simp) (fun b hb _ => Below.heap_alloc _ _ _ hb)
          have hatz := hat4.keep (w' := w4.alloc (.cells (pcells 0 0 0 0 nilv zero32).toArray 28)) (Below.heap_alloc _ _ _ hb44) (by simp) (fun b hb _ => Below.heap_alloc _ _ _ hb)
          have kz := hatz.hk
          have nz := hatz.hn
          rw [HPK.out] at kz
          rw [HPN.out] at nz
          have k5 := hat5.hk
          have n5 := hat5.hn
          rw [HPK.out] at k5
          rw [HPN.out] at n5
          refine wpAnyH_ready (rs := [11]) (by kernel_rfl) (by simp) (AllReadyH.cons rfl (fun K hK => ?_) AllReadyH.nil)
          try simp only [List.getElem_toArray, List.getElem_cons_zero, List.getElem_cons_succ]
          go_simp
          rw [zeroP_lit]
          refine hK.out _ _ ⟨kz, nz⟩ (fun hHeld => ?_)
          clear hK K
          try simp only [Act.put, List.getElem_toArray, List.getElem_cons_zero, List.getElem_cons_succ, List.setIfInBounds_toArray, List.set_cons_zero, List.set_cons_succ]
          refine wpAnyH_ready (rs := [12]) (by kernel_rfl) (by simp) (AllReadyH.cons rfl (fun K hK => ?_) AllReadyH.nil)
          try simp only [List.getElem_toArray, List.getElem_cons_zero, List.getElem_cons_succ]
          refine if_wanted (by rfl) ?_
          refine wp_store_row _ (.tmp 10) (.tmp 60) rfl w4.heap.size (pcells pk 0 pn 9223372036854775807 nilv zero32).toArray rfl rfl 28 _ (Whole.new w4 _ _) (by rw [psize zero_len]; exact info37) (by rw [psize zero_len, psize zero_len]) (pcells_one rfl) ?_
          rw [World.setRow_alloc_new]
          refine hK.out _ _ ⟨k5, n5⟩ (fun hHeld => ?_)
          clear hK K
          try simp only [Act.put, List.getElem_toArray, List.getElem_cons_zero, List.getElem_cons_succ, List.setIfInBounds_toArray, List.set_cons_zero, List.set_cons_succ]
          refine wpAnyH_done (by kernel_rfl) ?_ _
          have hw5 := hw4.alloc (.cells (pcells pk 0 pn 9223372036854775807 nilv zero32).toArray 28)
          have hx5 : Whole (w4.alloc (.cells (pcells pk 0 pn 9223372036854775807 nilv zero32).toArray 28)) w4.heap.size 28 (pcells pk 0 pn 9223372036854775807 nilv zero32).toArray := Whole.new _ _ _
          have hb5 : Below wr.heap.size wr (w4.alloc (.cells (pcells pk 0 pn 9223372036854775807 nilv zero32).toArray 28)) := hb4.alloc (by have := HS4.out; omega) _
          have HAT5 := Lib.hid hat5
          clear hHeld hat4 hatz kz nz k4 n4 hw4 hb4 hat5 hb44
          generalize w4.alloc (.cells (pcells pk 0 pn 9223372036854775807 nilv zero32).toArray 28) = w5 at *
          have HS : Hid (w4.heap.size = wr.heap.size + 1) := HS4
          generalize w4.heap.size = A at *
          have hPA : wr.heap.size ≠ A := by have := HS.out; omega
          have hPA' : wr.heap.size < A := by have := HS.out; omega
          have HW5 := Lib.hid hw5
          have HX5 := Lib.hid hx5
          have HB5 := Lib.hid hb5
          clear hw5 hx5 hb5 HS4
          by_cases h1 : pk = 1
          · have e1 : (pk == 1) = true := by simp [h1]
            have HH1 := Lib.hid h1
            clear h1
            have g0 : w5.cell? ⟨wr.heap.size, 1, none⟩ = some (.int .i64 0) := HW5.out.cell 1
            have f0 := HW5.out.frozen 1
            have HWQ : Hid (wantOf p = mkN pn) := Lib.hid (by unfold wantOf; rw [HPK.out, if_pos HH1.out, HPN.out])
            go_upto_region 20 with (fail)
            have h61 : Whole (w5.setCell ⟨wr.heap.size, 1, none⟩ (.int .i64 pn)) wr.heap.size 28 (cellsOf (mkN pn) nilv).toArray := by
              have h2 := HW5.out.set 1 (.int .i64 pn)
              rw [List.setIfInBounds_toArray, HH1.out] at h2
              exact h2
            have h62 : Whole (w5.setCell ⟨wr.heap.size, 1, none⟩ (.int .i64 pn)) A 28 (cellsOf (askOf p) nilv).toArray := by
              have e : cellsOf (askOf p) nilv = pcells pk 0 pn 9223372036854775807 nilv zero32 := by unfold cellsOf askOf; rw [HPK.out, HPN.out, if_neg (by rw [HH1.out]; omega)]
              rw [e]
              exact HX5.out.far (p := ⟨wr.heap.size, 1, none⟩) hPA.symm _
            have h63 := HB5.out.setCell (p := ⟨wr.heap.size, 1, none⟩) (Nat.le_refl _) (.int .i64 pn)
            clear g0 f0 k5 n5
            generalize w5.setCell ⟨wr.heap.size, 1, none⟩ (.int .i64 pn) = w6 at *
            generalize hC : (cellsOf (mkN pn) nilv).toArray = CW at *
            have HCW := Lib.hid hC
            clear hC
            generalize hC : (cellsOf (askOf p) nilv).toArray = CA at *
            have HCA := Lib.hid hC
            clear hC
            have H6 := Lib.hid (And.intro h61 (And.intro h62 h63))
            clear h61 h62 h63
            have HOQ : Hid ((mkN pn).Ok) := Lib.hid (mkN_ok (by rw [← HPN.out]; exact HOK.out.n))
            have HOA : Hid ((askOf p).Ok) := Lib.hid (ok_mk HOK.out.k (in_small (by omega) (by omega)) HOK.out.n (by split; exact ⟨by omega, by omega⟩; exact ⟨by omega, by omega⟩) zero_len byt_zero)
            have hCWs : CW.size = 37 := by rw [← HCW.out, List.size_toArray, cellsOf_len HOQ.out]
            have hCAs : CA.size = 37 := by rw [← HCA.out, List.size_toArray, cellsOf_len HOA.out]
            have z6 : w.heap.size ≤ w6.heap.size := Nat.le_trans hz H6.out.2.2.size
            have HT6 : Hid (Txt w6 (· < w.heap.size) none 0 0 (mkN pn).b) := Lib.hid (Txt.nil _ _ _ _)
            have HR6 := Lib.hid (HR.out.below H6.out.2.2)
            go_wp2_with (first
              | ((with_reducible show wpList _ _ _ ((⟨_, Op.load 28 _, _, _, _, _⟩ : Oper) :: _) _ _); refine wpList_load_row rfl _ (.tmp 9) rfl wr.heap.size rfl 28 CW (0, 0) _ H6.out.1 Try.underlying28 rfl (by rw [hCWs]; exact info37) ?_)
              | ((with_reducible show wpList _ _ _ ((⟨_, Op.buildSlice 23 _ _, _, _, _, _⟩ : Oper) :: _) _ _); refine wpList_build1 rfl 92 rfl CW hCWs rfl ?_)
              | (at_builtin; refine wpList_append_at _ rfl (.tmp 91) (.tmp 93) 23 rfl w.heap.size 28 i0 _ 37 88 Try.underlying23 HI.out.1 HI.out.2.1 HI.out.2.2.1 HI.out.2.2.2 (psize zero_len) (by omega) u7 rs.length (flat rs) rfl ?ca1 ⟨w6.heap.size, 0, none⟩ 1 1 (cellsOf (mkN pn) nilv) rfl ?ca2 ?ca3 (cells_one rfl) ?ca4 ?ca5 ?ca6 ?_))
            case ca1 => exact HR6.out.wants.1.alloc _
            case ca2 => rw [cellsOf_len HOQ.out]
            case ca3 =>
              intro j u hu
              have hn := Whole.new w6 28 CW
              rw [Addr.add_lit, Nat.zero_add, hn.cell, ← HCW.out]
              simpa using hu
            case ca4 => unfold maxLen; omega
            case ca5 => omega
            case ca6 => simp; omega
            intro v' w7 hown hgr hat
            have HR7 : Hid (BackRel w qs (rs ++ [((mkN pn), nilv)]) u6 v' w7) := Lib.hid (HR6.out.want HOQ.out HT6.out hown hgr (by simpa using hat))
            have HX7 : Hid (Whole w7 A 28 CA) := Lib.hid ((H6.out.2.1.alloc (.cells CW 28)).grown hgr (fun e => by have := (HR.out.wants.1.lt _ e.symm).2; omega))
            have hz7 := HR7.out.old.size
            clear hown hgr hat HR6
            go_wp2_with (first
              | ((with_reducible show wpList _ _ _ ((⟨_, Op.load 28 _, _, _, _, _⟩ : Oper) :: _) _ _); refine wpList_load_row rfl _ (.tmp 10) rfl A rfl 28 CA (0, 0) _ HX7.out Try.underlying28 rfl (by rw [hCAs]; exact info37) ?_)
              | ((with_reducible show wpList _ _ _ ((⟨_, Op.buildSlice 23 _ _, _, _, _, _⟩ : Oper) :: _) _ _); refine wpList_build1 rfl 96 rfl CA hCAs rfl ?_)
              | (at_builtin; refine wpList_append_at _ rfl (.tmp 95) (.tmp 97) 23 rfl w.heap.size 28 i0 _ 37 88 Try.underlying23 HI.out.1 HI.out.2.1 HI.out.2.2.1 HI.out.2.2.2 (psize zero_len) (by omega) u6 qs.length (flat qs) rfl ?da1 ⟨w7.heap.size, 0, none⟩ 1 1 (cellsOf (askOf p) nilv) rfl ?da2 ?da3 (cells_one rfl) ?da4 ?da5 ?da6 ?_))
            case da1 => exact HR7.out.asks.1.alloc _
            case da2 => rw [cellsOf_len HOA.out]
            case da3 =>
              intro j u hu
              have hn := Whole.new w7 28 CA
              rw [Addr.add_lit, Nat.zero_add, hn.cell, ← HCA.out]
              simpa using hu
            case da4 => unfold maxLen; omega
            case da5 => omega
            case da6 => simp; omega
            intro v'' w8 hown hgr hat
            have HR8 : Hid (BackRel w (qs ++ [(askOf p, nilv)]) (rs ++ [((mkN pn), nilv)]) v'' v' w8) := Lib.hid (HR7.out.ask HOA.out rfl hown hgr (by simpa using hat))
            clear hown hgr hat
            have HN : Hid (BackAt w ps v'' v' (.int .i64 ((k : Int) + 1)) w8) := Lib.hid ⟨k + 1, _, _, by have := HLEN.out; omega, by go_num, by simp; omega, by simp; omega, by rw [(asks_snoc HP.out HV.out).1, List.map_append, HQM.out]; rfl, by rw [(asks_snoc HP.out HV.out).2, List.map_append, HRM.out, HWQ.out]; rfl, HR8.out⟩
            go_wp2
            exact ⟨HN.out, by simp [intOf]; omega⟩
          by_cases h2 : pk = 2
          · have e1 : (pk == 1) = false := by simp [h1]
            have e2 : (pk == 2) = true := by simp [h2]
            have HH2 := Lib.hid h2
            obtain ⟨xa, xn, xc, c4, hxt⟩ := HAT5.out.hb
            have HXT := Lib.hid hxt
            clear h1 h2 hxt
            have g0 : w5.cell? ⟨wr.heap.size, 4, none⟩ = some nilv := HW5.out.cell 4
            have f0 := HW5.out.frozen 4
            have g1 : (w5.setCell ⟨wr.heap.size, 4, none⟩ (.slice xa xn xc)).cell? ⟨A, 3, none⟩ = some (.int .i64 9223372036854775807) := (HX5.out.far (p := ⟨wr.heap.size, 4, none⟩) hPA.symm _).cell 3
            have f1 : (w5.setCell ⟨wr.heap.size, 4, none⟩ (.slice xa xn xc)).frozen? ⟨A, 3, none⟩ = false := (HX5.out.far (p := ⟨wr.heap.size, 4, none⟩) hPA.symm _).frozen 3
            have HWQ : Hid (wantOf p = mkB p.b) := Lib.hid (by unfold wantOf; rw [HPK.out, if_neg (by rw [HH2.out]; omega), if_pos HH2.out])
            go_upto_region 20 with (fail)
            have h61 : Whole ((w5.setCell ⟨wr.heap.size, 4, none⟩ (.slice xa xn xc)).setCell ⟨A, 3, none⟩ (.int .i64 300)) wr.heap.size 28 (cellsOf (mkB p.b) (.slice xa xn xc)).toArray := by
              have h2 := HW5.out.set 4 (.slice xa xn xc)
              rw [List.setIfInBounds_toArray, HH2.out] at h2
              exact (h2.far (p := ⟨A, 3, none⟩) hPA _)
            have h62 : Whole ((w5.setCell ⟨wr.heap.size, 4, none⟩ (.slice xa xn xc)).setCell ⟨A, 3, none⟩ (.int .i64 300)) A 28 (cellsOf (askOf p) nilv).toArray := by
              have e : cellsOf (askOf p) nilv = pcells pk 0 pn 300 nilv zero32 := by unfold cellsOf askOf; rw [HPK.out, HPN.out, if_pos HH2.out]
              have h2 := (HX5.out.far (p := ⟨wr.heap.size, 4, none⟩) hPA.symm (.slice xa xn xc)).set 3 (.int .i64 300)
              rw [List.setIfInBounds_toArray] at h2
              rw [e]
              exact h2
            have h63 := (HB5.out.setCell (p := ⟨wr.heap.size, 4, none⟩) (Nat.le_refl _) (.slice xa xn xc)).setCell (p := ⟨A, 3, none⟩) (Nat.le_of_lt hPA') (.int .i64 300)
            have h64 : Txt ((w5.setCell ⟨wr.heap.size, 4, none⟩ (.slice xa xn xc)).setCell ⟨A, 3, none⟩ (.int .i64 300)) (· < w.heap.size) xa xn xc p.b := HXT.out.keep (by simp) (fun b _ hb => by
              have e1 : b ≠ A := by have : b < w.heap.size := hb; omega
              have e2 : b ≠ wr.heap.size := by have : b < w.heap.size := hb; omega
              exact (Below.heap_setCell _ ⟨A, 3, none⟩ _ b e1).trans (Below.heap_setCell _ ⟨wr.heap.size, 4, none⟩ _ b e2))
            clear g0 f0 g1 f1 k5 n5 c4
            generalize (w5.setCell ⟨wr.heap.size, 4, none⟩ (.slice xa xn xc)).setCell ⟨A, 3, none⟩ (.int .i64 300) = w6 at *
            generalize hC : (cellsOf (mkB p.b) (.slice xa xn xc)).toArray = CW at *
            have HCW := Lib.hid hC
            clear hC
            generalize hC : (cellsOf (askOf p) nilv).toArray = CA at *
            have HCA := Lib.hid hC
            clear hC
            have H6 := Lib.hid (And.intro h61 (And.intro h62 h63))
            have H64 := Lib.hid h64
            clear h61 h62 h63 h64
            have HOQ : Hid ((mkB p.b).Ok) := Lib.hid (mkB_ok p.b)
            have HOA : Hid ((askOf p).Ok) := Lib.hid (ok_mk HOK.out.k (in_small (by omega) (by omega)) HOK.out.n (by split; exact ⟨by omega, by omega⟩; exact ⟨by omega, by omega⟩) zero_len byt_zero)
            have hCWs : CW.size = 37 := by rw [← HCW.out, List.size_toArray, cellsOf_len HOQ.out]
            have hCAs : CA.size = 37 := by rw [← HCA.out, List.size_toArray, cellsOf_len HOA.out]
            have z6 : w.heap.size ≤ w6.heap.size := Nat.le_trans hz H6.out.2.2.size
            have HT6 : Hid (Txt w6 (· < w.heap.size) xa xn xc (mkB p.b).b) := Lib.hid (H64.out)
            have HR6 := Lib.hid (HR.out.below H6.out.2.2)
            go_wp2_with (first
              | ((with_reducible show wpList _ _ _ ((⟨_, Op.load 28 _, _, _, _, _⟩ : Oper) :: _) _ _); refine wpList_load_row rfl _ (.tmp 9) rfl wr.heap.size rfl 28 CW (0, 0) _ H6.out.1 Try.underlying28 rfl (by rw [hCWs]; exact info37) ?_)
              | ((with_reducible show wpList _ _ _ ((⟨_, Op.buildSlice 23 _ _, _, _, _, _⟩ : Oper) :: _) _ _); refine wpList_build1 rfl 92 rfl CW hCWs rfl ?_)
              | (at_builtin; refine wpList_append_at _ rfl (.tmp 91) (.tmp 93) 23 rfl w.heap.size 28 i0 _ 37 88 Try.underlying23 HI.out.1 HI.out.2.1 HI.out.2.2.1 HI.out.2.2.2 (psize zero_len) (by omega) u7 rs.length (flat rs) rfl ?cb1 ⟨w6.heap.size, 0, none⟩ 1 1 (cellsOf (mkB p.b) (.slice xa xn xc)) rfl ?cb2 ?cb3 (cells_one rfl) ?cb4 ?cb5 ?cb6 ?_))
            case cb1 => exact HR6.out.wants.1.alloc _
            case cb2 => rw [cellsOf_len HOQ.out]
            case cb3 =>
              intro j u hu
              have hn := Whole.new w6 28 CW
              rw [Addr.add_lit, Nat.zero_add, hn.cell, ← HCW.out]
              simpa using hu
            case cb4 => unfold maxLen; omega
            case cb5 => omega
            case cb6 => simp; omega
            intro v' w7 hown hgr hat
            have HR7 : Hid (BackRel w qs (rs ++ [((mkB p.b), (.slice xa xn xc))]) u6 v' w7) := Lib.hid (HR6.out.want HOQ.out HT6.out hown hgr (by simpa using hat))
            have HX7 : Hid (Whole w7 A 28 CA) := Lib.hid ((H6.out.2.1.alloc (.cells CW 28)).grown hgr (fun e => by have := (HR.out.wants.1.lt _ e.symm).2; omega))
            have hz7 := HR7.out.old.size
            clear hown hgr hat HR6
            go_wp2_with (first
              | ((with_reducible show wpList _ _ _ ((⟨_, Op.load 28 _, _, _, _, _⟩ : Oper) :: _) _ _); refine wpList_load_row rfl _ (.tmp 10) rfl A rfl 28 CA (0, 0) _ HX7.out Try.underlying28 rfl (by rw [hCAs]; exact info37) ?_)
              | ((with_reducible show wpList _ _ _ ((⟨_, Op.buildSlice 23 _ _, _, _, _, _⟩ : Oper) :: _) _ _); refine wpList_build1 rfl 96 rfl CA hCAs rfl ?_)
              | (at_builtin; refine wpList_append_at _ rfl (.tmp 95) (.tmp 97) 23 rfl w.heap.size 28 i0 _ 37 88 Try.underlying23 HI.out.1 HI.out.2.1 HI.out.2.2.1 HI.out.2.2.2 (psize zero_len) (by omega) u6 qs.length (flat qs) rfl ?db1 ⟨w7.heap.size, 0, none⟩ 1 1 (cellsOf (askOf p) nilv) rfl ?db2 ?db3 (cells_one rfl) ?db4 ?db5 ?db6 ?_))
            case db1 => exact HR7.out.asks.1.alloc _
            case db2 => rw [cellsOf_len HOA.out]
            case db3 =>
              intro j u hu
              have hn := Whole.new w7 28 CA
              rw [Addr.add_lit, Nat.zero_add, hn.cell, ← HCA.out]
              simpa using hu
            case db4 => unfold maxLen; omega
            case db5 => omega
            case db6 => simp; omega
            intro v'' w8 hown hgr hat
            have HR8 : Hid (BackRel w (qs ++ [(askOf p, nilv)]) (rs ++ [((mkB p.b), (.slice xa xn xc))]) v'' v' w8) := Lib.hid (HR7.out.ask HOA.out rfl hown hgr (by simpa using hat))
            clear hown hgr hat
            have HN : Hid (BackAt w ps v'' v' (.int .i64 ((k : Int) + 1)) w8) := Lib.hid ⟨k + 1, _, _, by have := HLEN.out; omega, by go_num, by simp; omega, by simp; omega, by rw [(asks_snoc HP.out HV.out).1, List.map_append, HQM.out]; rfl, by rw [(asks_snoc HP.out HV.out).2, List.map_append, HRM.out, HWQ.out]; rfl, HR8.out⟩
            go_wp2
            exact ⟨HN.out, by simp [intOf]; omega⟩
          · have e1 : (pk == 1) = false := by simp [h1]
            have e2 : (pk == 2) = false := by simp [h2]
            have e3 : (pk == 3) = true := by simp; omega
            have HH3 : Hid (pk = 3) := Lib.hid (by omega)
            have hrg := HAT5.out.hh
            have HRG := Lib.hid hrg
            have HHL : Hid ((nums p.h).length = 32) := Lib.hid (by rw [nums_len, HOK.out.h])
            clear h1 h2 hrg
            have HWQ : Hid (wantOf p = mkH p.h) := Lib.hid (by unfold wantOf; rw [HPK.out, if_neg (by rw [HH3.out]; omega), if_neg (by rw [HH3.out]; omega)])
            go_upto_region 20 with (first
              | ((with_reducible show wpList _ _ _ ((⟨_, Op.load 26 _, _, _, _, _⟩ : Oper) :: _) _ _); refine wpList_load_mid rfl _ (.tmp 88) rfl b (off + k * 37 + 5) rfl _ _ HRG.out Try.underlying26 rfl (by rw [HHL.out]; exact info32) ?_)
              | ((with_reducible show wpList _ _ _ ((⟨_, Op.store 26 _ _, _, _, _, _⟩ : Oper) :: _) _ _); refine wpList_store_part rfl _ (.tmp 90) (.tmp 89) rfl wr.heap.size 5 (nums p.h) rfl rfl HW5.out (by rw [HHL.out]; exact info32) (nums_one _) (by rw [HHL.out, pcells_len zero_len]; omega) ?_))
            rw [splice_hash zero_len HOK.out.h]
            have h61 : Whole (w5.setRow wr.heap.size (pcells pk 0 0 0 nilv p.h).toArray) wr.heap.size 28 (cellsOf (mkH p.h) nilv).toArray := by
              have h2 := HW5.out.row (pcells pk 0 0 0 nilv p.h).toArray
              rw [HH3.out] at h2 ⊢
              exact h2
            have h62 : Whole (w5.setRow wr.heap.size (pcells pk 0 0 0 nilv p.h).toArray) A 28 (cellsOf (askOf p) nilv).toArray := by
              have e : cellsOf (askOf p) nilv = pcells pk 0 pn 9223372036854775807 nilv zero32 := by unfold cellsOf askOf; rw [HPK.out, HPN.out, if_neg (by rw [HH3.out]; omega)]
              rw [e]
              exact HX5.out.rowFar hPA.symm _
            have h63 := below_row HB5.out (Nat.le_refl _) (pcells pk 0 0 0 nilv p.h).toArray
            clear k5 n5
            generalize w5.setRow wr.heap.size (pcells pk 0 0 0 nilv p.h).toArray = w6 at *
            generalize hC : (cellsOf (mkH p.h) nilv).toArray = CW at *
            have HCW := Lib.hid hC
            clear hC
            generalize hC : (cellsOf (askOf p) nilv).toArray = CA at *
            have HCA := Lib.hid hC
            clear hC
            have H6 := Lib.hid (And.intro h61 (And.intro h62 h63))
            clear h61 h62 h63
            have HOQ : Hid ((mkH p.h).Ok) := Lib.hid (mkH_ok HOK.out.h HOK.out.hb)
            have HOA : Hid ((askOf p).Ok) := Lib.hid (ok_mk HOK.out.k (in_small (by omega) (by omega)) HOK.out.n (by split; exact ⟨by omega, by omega⟩; exact ⟨by omega, by omega⟩) zero_len byt_zero)
            have hCWs : CW.size = 37 := by rw [← HCW.out, List.size_toArray, cellsOf_len HOQ.out]
            have hCAs : CA.size = 37 := by rw [← HCA.out, List.size_toArray, cellsOf_len HOA.out]
            have z6 : w.heap.size ≤ w6.heap.size := Nat.le_trans hz H6.out.2.2.size
            have HT6 : Hid (Txt w6 (· < w.heap.size) none 0 0 (mkH p.h).b) := Lib.hid (Txt.nil _ _ _ _)
            have HR6 := Lib.hid (HR.out.below H6.out.2.2)
            go_wp2_with (first
              | ((with_reducible show wpList _ _ _ ((⟨_, Op.load 28 _, _, _, _, _⟩ : Oper) :: _) _ _); refine wpList_load_row rfl _ (.tmp 9) rfl wr.heap.size rfl 28 CW (0, 0) _ H6.out.1 Try.underlying28 rfl (by rw [hCWs]; exact info37) ?_)
              | ((with_reducible show wpList _ _ _ ((⟨_, Op.buildSlice 23 _ _, _, _, _, _⟩ : Oper) :: _) _ _); refine wpList_build1 rfl 92 rfl CW hCWs rfl ?_)
              | (at_builtin; refine wpList_append_at _ rfl (.tmp 91) (.tmp 93) 23 rfl w.heap.size 28 i0 _ 37 88 Try.underlying23 HI.out.1 HI.out.2.1 HI.out.2.2.1 HI.out.2.2.2 (psize zero_len) (by omega) u7 rs.length (flat rs) rfl ?ce1 ⟨w6.heap.size, 0, none⟩ 1 1 (cellsOf (mkH p.h) nilv) rfl ?ce2 ?ce3 (cells_one rfl) ?ce4 ?ce5 ?ce6 ?_))
            case ce1 => exact HR6.out.wants.1.alloc _
            case ce2 => rw [cellsOf_len HOQ.out]
            case ce3 =>
              intro j u hu
              have hn := Whole.new w6 28 CW
              rw [Addr.add_lit, Nat.zero_add, hn.cell, ← HCW.out]
              simpa using hu
            case ce4 => unfold maxLen; omega
            case ce5 => omega
            case ce6 => simp; omega
            intro v' w7 hown hgr hat
            have HR7 : Hid (BackRel w qs (rs ++ [((mkH p.h), nilv)]) u6 v' w7) := Lib.hid (HR6.out.want HOQ.out HT6.out hown hgr (by simpa using hat))
            have HX7 : Hid (Whole w7 A 28 CA) := Lib.hid ((H6.out.2.1.alloc (.cells CW 28)).grown hgr (fun e => by have := (HR.out.wants.1.lt _ e.symm).2; omega))
            have hz7 := HR7.out.old.size
            clear hown hgr hat HR6
            go_wp2_with (first
              | ((with_reducible show wpList _ _ _ ((⟨_, Op.load 28 _, _, _, _, _⟩ : Oper) :: _) _ _); refine wpList_load_row rfl _ (.tmp 10) rfl A rfl 28 CA (0, 0) _ HX7.out Try.underlying28 rfl (by rw [hCAs]; exact info37) ?_)
              | ((with_reducible show wpList _ _ _ ((⟨_, Op.buildSlice 23 _ _, _, _, _, _⟩ : Oper) :: _) _ _); refine wpList_build1 rfl 96 rfl CA hCAs rfl ?_)
              | (at_builtin; refine wpList_append_at _ rfl (.tmp 95) (.tmp 97) 23 rfl w.heap.size 28 i0 _ 37 88 Try.underlying23 HI.out.1 HI.out.2.1 HI.out.2.2.1 HI.out.2.2.2 (psize zero_len) (by omega) u6 qs.length (flat qs) rfl ?de1 ⟨w7.heap.size, 0, none⟩ 1 1 (cellsOf (askOf p) nilv) rfl ?de2 ?de3 (cells_one rfl) ?de4 ?de5 ?de6 ?_))
            case de1 => exact HR7.out.asks.1.alloc _
            case de2 => rw [cellsOf_len HOA.out]
            case de3 =>
              intro j u hu
              have hn := Whole.new w7 28 CA
              rw [Addr.add_lit, Nat.zero_add, hn.cell, ← HCA.out]
              simpa using hu
            case de4 => unfold maxLen; omega
            case de5 => omega
            case de6 => simp; omega
            intro v'' w8 hown hgr hat
            have HR8 : Hid (BackRel w (qs ++ [(askOf p, nilv)]) (rs ++ [((mkH p.h), nilv)]) v'' v' w8) := Lib.hid (HR7.out.ask HOA.out rfl hown hgr (by simpa using hat))
            clear hown hgr hat
            have HN : Hid (BackAt w ps v'' v' (.int .i64 ((k : Int) + 1)) w8) := Lib.hid ⟨k + 1, _, _, by have := HLEN.out; omega, by go_num, by simp; omega, by simp; omega, by rw [(asks_snoc HP.out HV.out).1, List.map_append, HQM.out]; rfl, by rw [(asks_snoc HP.out HV.out).2, List.map_append, HRM.out, HWQ.out]; rfl, HR8.out⟩
            go_wp2
            exact ⟨HN.out, by simp [intOf]; omega⟩
        · have h3 : p.k < 1 ∨ 3 < p.k := by unfold Valid at hv; omega
          have HN : Hid (BackAt w ps u6 u7 (.int .i64 ((k : Int) + 1)) wr) := Lib.hid ⟨k + 1, qs, rs, by have := HLEN.out; omega, by go_num, by omega, by omega, by rw [(asks_skip HP.out hv).1]; exact HQM.out, by rw [(asks_skip HP.out hv).2]; exact HRM.out, HR.out⟩
          clear hv
          rcases h3 with h3 | h3
          · have hq1 : decide (p.k < 1) = true := by simp [h3]
            go_wp2
            exact ⟨HN.out, by simp [intOf]; omega⟩
          · have hq1 : decide (p.k < 1) = false := by simp; omega
            have hq2 : decide (3 < p.k) = true := by simp [h3]
            go_wp2
            exact ⟨HN.out, by simp [intOf]; omega⟩
      · have hkl : k = len0 := by omega
        have hpl : ps.length = len0 := H.out.1
        have HTK : Hid (ps.take k = ps) := Lib.hid (List.take_of_length_le (by omega))
        obtain ⟨aQ, cQ, rfl, hpq⟩ := out_prts HR.out.asks
        obtain ⟨aR, cR, rfl, hpr⟩ := out_prts HR.out.wants
        rw [HQM.out, HTK.out] at hpq
        rw [HRM.out, HTK.out] at hpr
        have PQ := Lib.hid hpq.old
        have PR := Lib.hid hpr.old
        have HB := Lib.hid HR.out.old
        have hq20 : qs.length ≤ 20 := by omega
        have hr20 : rs.length ≤ 20 := by omega
        generalize qs.length = nq at *
        generalize rs.length = nr at *
        have hok := H.out.2.1
        have hbyt := H.out.byt
        have HW1 := Lib.hid (reads_back hok HF.out)
        have HW2 := Lib.hid (reads_more hok HF.out y)
        have HW3 := Lib.hid (reads_fewer hok HF.out)
        have HWL : Hid ((written ps).length ≤ 6200) := Lib.hid (by have h1 := written_len hok HF.out.2; have h2 := HF.out.1; omega)
        have HBY : Hid (Cd.Byt (written ps)) := Lib.hid (written_byt hok hbyt)
        have hd : decide (k < len0) = false := by simp; omega
        have HPS : Hid (Prts wr (fun b => b < w.heap.size) a0 len0 ps) := Lib.hid (H.out.below HB.out (fun _ _ h => h))
        clear hpq hpr hok hbyt HQM HRM HTK HLEN hk' hqk hrk HR hkl hpl c
        generalize wr = wk at *
        have hz : w.heap.size ≤ wk.heap.size := HB.out.size
        go_wp2_with fail
        refine (written_any HPS.out HF.out).mono ?_
        rintro e w3 ⟨v3, rfl, hown, hbl⟩
        obtain ⟨a3, c3, rfl, htx⟩ := own_slice hown HBY.out
        obtain ⟨N, hN⟩ : ∃ N, (written ps).length = N := ⟨_, rfl⟩
        rw [hN] at htx
        rw [hN]
        have hN6 : N ≤ 6200 := by rw [← hN]; exact HWL.out
        have HNN := Lib.hid hN
        have HT3 := Lib.hid htx.old
        have PQ3 := Lib.hid (PQ.out.below hbl (fun _ h _ => h)).old
        have PR3 := Lib.hid (PR.out.below hbl (fun _ h _ => h)).old
        have HB3 : Hid (Below w.heap.size w w3) := Lib.hid (HB.out.trans (hbl.mono hz))
        clear hown hbl htx hN PQ PR HB HPS hz
        go_wp2_with fail
        refine (read_any HT3.out PQ3.out (by omega) hq20).mono ?_
        rintro e w4 ⟨qs4, v4, rfl, hout, hmap, hbl⟩
        rw [HW1.out] at hmap ⊢
        obtain ⟨a4, c4, rfl, hp4⟩ := out_prts hout
        rw [hmap] at hp4
        have hr4 : qs4.length = nr := by rw [← List.length_map (f := (·.1)), hmap]; exact PR3.out.1
        rw [hr4] at hp4
        rw [hr4]
        have PX4 := Lib.hid hp4.old
        have HT4 := Lib.hid (HT3.out.below hbl (fun _ h _ => h)).old
        have PQ4 := Lib.hid (PQ3.out.below hbl (fun _ h _ => h)).old
        have PR4 := Lib.hid (PR3.out.below hbl (fun _ h _ => h)).old
        have HB4 : Hid (Below w.heap.size w w4) := Lib.hid (HB3.out.trans (hbl.mono HB3.out.size))
        clear hout hmap hbl hp4 hr4 HT3 PQ3 PR3 HB3
        rw [show doneOf (wantsOf ps, ([] : List Int), false).2.1 (wantsOf ps, ([] : List Int), false).2.2 = 0 from rfl]
        have hmx : Prts w4 (fun x => x < w4.heap.size) a4 nr (wantsOf ps) := PX4.out
        have PX4' := Lib.hid hmx
        clear hmx PX4
        obtain ⟨j0, hi0, hz0, hz1, hz2⟩ := info_parts u8_info
        have HJ := Lib.hid (And.intro hi0 (And.intro hz0 (And.intro hz1 hz2)))
        clear hi0 hz0 hz1 hz2
        have hy := u8_in HY.out
        have HYB : Hid (Cd.Byt [y]) := Lib.hid (by intro x hx; simp at hx; subst hx; exact hy)
        clear hy
        go_wp2_with (at_builtin; refine wpList_append_txt _ rfl (.tmp 108) (.tmp 109) 25 rfl w4.heap.size 5 j0 (.int .u8 0) 1 Try.underlying25 HJ.out.1 HJ.out.2.1 HJ.out.2.2.1 HJ.out.2.2.2 rfl _ 0 ([]) rfl ?e1 (fun b => b < w4.heap.size) a3 N c3 (written ps) rfl ?e2 ?e3 ?e4 ?e5 ?_)
        case e1 => exact World.ownsRow_lit w4 #[] 0 (Nat.le_refl _) (by unfold maxLen; omega) rfl
        case e2 => exact HT4.out.keep (by simp) fun b hb _ => Below.heap_alloc _ _ _ hb
        case e3 => unfold maxLen; omega
        case e4 => omega
        case e5 => simp
        intro v5 w5 hown hg _
        have HO5 := Lib.hid hown
        have hb5 : Below w4.heap.size w4 w5 := ((Below.refl _ _).alloc (Nat.le_refl _) _).grown hg (by simp) (fun k hk => by simp [Value.ownBlock] at hk; omega)
        have z5 : w4.heap.size ≤ w5.heap.size := hb5.size
        have HB5 := Lib.hid hb5
        clear hown hg hb5
        obtain ⟨a5, c5, rfl⟩ := own_form HO5.out
        go_wp2_with (at_builtin; refine wpList_append_txt _ rfl (.tmp 110) (.tmp 112) 25 rfl w4.heap.size 5 j0 (.int .u8 0) 1 Try.underlying25 HJ.out.1 HJ.out.2.1 HJ.out.2.2.1 HJ.out.2.2.2 rfl _ N (nums (written ps)) rfl ?g1 (fun b => b = w5.heap.size) (some ⟨w5.heap.size, 0, none⟩) 1 1 [y] rfl ?g2 ?g3 ?g4 ?g5 ?_)
        case g1 => exact HO5.out.alloc _
        case g2 => exact txt_new HYB.out
        case g3 => unfold maxLen; omega
        case g4 => omega
        case g5 => simp; omega
        intro v6 w6 hown hg _
        have HO6 : Hid (w6.ownsRow w4.heap.size 5 1 v6 (N + 1) (nums (written ps ++ [y]))) := Lib.hid (by rw [nums_append]; exact hown)
        have hb6 : Below w4.heap.size w4 w6 := (HB5.out.alloc z5 _).grown hg (by simp; omega) (fun k hk => by have := (HO5.out.lt k (by simpa using hk)).1; exact this)
        have HB6 := Lib.hid hb6
        have z6 : w4.heap.size ≤ w6.heap.size := hb6.size
        obtain ⟨a6, c6, rfl, htx⟩ := own_slice HO6.out (Cd.byt_append HBY.out HYB.out)
        have HT6 := Lib.hid htx
        have PQ6 := Lib.hid (PQ4.out.below hb6 (fun _ h _ => h)).old
        have PR6 := Lib.hid (PR4.out.below hb6 (fun _ h _ => h)).old
        have PX6 := Lib.hid (PX4'.out.below hb6 (fun _ h _ => h)).old
        have HT46 := Lib.hid (HT4.out.below hb6 (fun _ h _ => h)).old
        have HBW6 : Hid (Below w.heap.size w w6) := Lib.hid (HB4.out.trans (hb6.mono HB4.out.size))
        clear hown hg hb6 htx HO5 HO6 HB5 HB6 PQ4 PR4 PX4' HT4 HB4
        go_wp2_with fail
        refine (read_any HT6.out PQ6.out (by omega) hq20).mono ?_
        rintro e w7 ⟨qs7, v7, rfl, hout, hmap, hbl⟩
        rw [HW2.out]
        rw [show doneOf (wantsOf ps, [y], false).2.1 (wantsOf ps, [y], false).2.2 = 20 from rfl]
        obtain ⟨a7, c7, rfl, _⟩ := out_prts hout
        have PQ7 := Lib.hid (PQ6.out.below hbl (fun _ h _ => h)).old
        have PR7 := Lib.hid (PR6.out.below hbl (fun _ h _ => h)).old
        have PX7 := Lib.hid (PX6.out.below hbl (fun _ h _ => h)).old
        have HT7 := Lib.hid (HT46.out.below hbl (fun _ h _ => h)).old
        have HBW7 : Hid (Below w.heap.size w w7) := Lib.hid (HBW6.out.trans (hbl.mono HBW6.out.size))
        generalize qs7.length = n7 at *
        clear hout hmap hbl HT6 PQ6 PR6 PX6 HT46 HBW6
        go_wp2_with fail
        refine (same_any PX7.out PR7.out (by omega) (alike_refl _)).mono ?_
        rintro e w8 ⟨rfl, hbl⟩
        have PQ8 := Lib.hid (PQ7.out.below hbl (fun _ h _ => h)).old
        have HT8 := Lib.hid (HT7.out.below hbl (fun _ h _ => h)).old
        have HBW8 : Hid (Below w.heap.size w w8) := Lib.hid (HBW7.out.trans (hbl.mono HBW7.out.size))
        clear hbl HT7 PQ7 PR7 PX7 HBW7
        by_cases hN0 : N = 0
        · have he : ((N : Int) == 0) = true := by rw [beq_iff_eq]; omega
          clear hN0
          go_wp2
          go_ret
          exact ⟨rfl, HBW8.out⟩
        · have he : ((N : Int) == 0) = false := by rw [beq_eq_false_iff_ne]; omega
          have hN1 : N - 1 ≤ c3 := by have := HT8.out.2.1; omega
          have hc3 : N ≤ c3 := HT8.out.2.1
          obtain ⟨M, hM⟩ : ∃ M, N = M + 1 := ⟨N - 1, by omega⟩
          have HDL : Hid ((written ps).dropLast = (written ps).take M) := Lib.hid (by rw [List.dropLast_eq_take, HNN.out, hM, Nat.add_sub_cancel])
          have HNE : Hid (written ps ≠ []) := Lib.hid (by intro h; have := HNN.out; rw [h] at this; simp at this; omega)
          subst hM
          have HT9 := Lib.hid (HT8.out.take M (by omega))
          have h3 := HW3.out HNE.out
          rw [HDL.out] at h3
          have H3 := Lib.hid h3
          clear h3 hN0 hN1
          go_wp2_with fail
          refine (read_any HT9.out PQ8.out (by omega) hq20).mono ?_
          rintro e w9 ⟨qs9, v9, rfl, hout, hmap, hbl⟩
          rw [H3.out]
          obtain ⟨a9, c9, rfl, _⟩ := out_prts hout
          have HBW9 : Hid (Below w.heap.size w w9) := Lib.hid (HBW8.out.trans (hbl.mono HBW8.out.size))
          generalize qs9.length = n9 at *
          clear hout hmap hbl
          go_wp2
          go_ret
          exact ⟨rfl, HBW9.out⟩
  · have hfb : fewB ps = false := by
      cases h : fewB ps with
      | true => exact absurd (fewB_true.1 h) hfew
      | false => rfl
    clear hfew
    go_enter Try.func6, Try.ntmps6
    go_wp2_with fail
    refine (awake_any _).mono ?_; rintro e w1 ⟨rfl, hg⟩
    have HB1 := Lib.hid hg
    clear hg
    go_wp2_with fail
    refine (few_any (H.out.below HB1.out (fun _ _ h => h))).mono ?_
    rintro e w2 ⟨rfl, rfl⟩
    rw [hfb]
    go_wp2
    go_ret
    exact ⟨rfl, HB1.out⟩
end Go.Proofs.Ytkmkccdihoaefaa
