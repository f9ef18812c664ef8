/-
  The walk of Dirty.
-/
import Derived.Test.YtfecobkpdmjaeaaZe
import Derived.Test.YtfecobkpdmjaeaaZf
namespace Go.Proofs.Ytfecobkpdmjaeaa
open Go.RowKit
set_option linter.unusedVariables false
set_option maxRecDepth 20000
set_option linter.unusedSimpArgs false
structure Only (S : List Nat) (w w' : World) : Prop where
  os : w'.os = w.os
  tape : w'.tape = w.tape
  output : w'.output = w.output
  size : w.heap.size ≤ w'.heap.size
  block : ∀ i, i < w.heap.size → i ∉ S → w'.heap[i]? = w.heap[i]?
theorem Only.refl (S : List Nat) (w : World) : Only S w w := ⟨rfl, rfl, rfl, Nat.le_refl _, fun _ _ _ => rfl⟩
theorem Only.trans {S : List Nat} {a b c : World} (h : Only S a b) (k : Only S b c) : Only S a c :=
  ⟨k.os.trans h.os, k.tape.trans h.tape, k.output.trans h.output, Nat.le_trans h.size k.size, fun i hi hn => (k.block i (Nat.lt_of_lt_of_le hi h.size) hn).trans (h.block i hi hn)⟩
theorem Only.of_below {S : List Nat} {a b : World} (h : Below a.heap.size a b) : Only S a b := ⟨h.os, h.tape, h.output, h.size, fun i hi _ => h.block i hi⟩
theorem Only.of_grown {S : List Nat} {a b : World} {j : Nat} (h : a.grownBy b (some j)) (hj : j ∈ S) : Only S a b :=
  ⟨h.os, h.tape, h.output, h.size, fun i hi hn => h.block i hi (fun e => hn (by cases e; exact hj))⟩
theorem Only.below {S : List Nat} {a b : World} {B : Nat} (h : Only S a b) (hB : B ≤ a.heap.size) (hS : ∀ j ∈ S, B ≤ j) : Below B a b :=
  ⟨h.os, h.tape, h.output, h.size, fun i hi => h.block i (by omega) (fun hm => by have := hS i hm; omega)⟩
def ints (l : List Nat) : List Value := l.map fun (x : Nat) => .int .i64 (x : Int)
def some_of (f : Dm.F) (d : Nat → Bool) : List Value := f.mapIdx fun i x => .int .i64 (if d i then (x.1 : Int) else 0)
theorem some_len (f : Dm.F) (d : Nat → Bool) : (some_of f d).length = f.length := by simp [some_of]
theorem some_set {f : Dm.F} {d : Nat → Bool} {i : Nat} {x : Nat × List Int} (h : f[i]? = some x) : (some_of f d).toArray.setIfInBounds i (.int .i64 (x.1 : Int)) = (some_of f (fun j => d j || j == i)).toArray := by
  rw [List.setIfInBounds_toArray]
  congr 1
  apply List.ext_getElem?
  intro q
  simp only [some_of, List.getElem?_set, List.getElem?_mapIdx, List.length_mapIdx]
  by_cases e : i = q
  · subst e
    rw [if_pos rfl, if_pos (List.getElem?_eq_some_iff.1 h).1, h]
    simp
  · rw [if_neg e]
    have : (q == i) = false := by simpa using fun h => e h.symm
    simp [this]
theorem some_all {f : Dm.F} {d : Nat → Bool} (h : ∀ i, i < f.length → d i = true) : some_of f d = ints (f.map (·.1)) := by
  apply List.ext_getElem?
  intro q
  simp only [some_of, ints, List.getElem?_map, List.getElem?_mapIdx]
  by_cases hq : q < f.length
  · rw [h q hq]
    cases f[q]? <;> simp
  · rw [List.getElem?_eq_none (by omega)]
    rfl
theorem int_info : (Try.prog.info? 3).map (fun i => (i.zero, i.size, i.bytes)) = some (some (.int .i64 0), 1, 8) := by kernel_rfl
theorem make_ints (n : Nat) (hn : n ≤ 1000000) (w : World) : (Instr.makeSlice 38 (.int .i64 (n : Int)) (.int .i64 (n : Int))).run Try.prog w = .ok (.slice (some ⟨w.heap.size, 0, none⟩) n n) (w.alloc (.cells (madeCells #[Value.int .i64 0] n) 3)) :=
  run_make_row' (P := Try.prog) 38 3 (.int .i64 0) 8 Try.underlying38 int_info rfl .i64 .i64 n (by omega) (by omega) w
theorem made_ints (f : Dm.F) : madeCells #[Value.int .i64 0] f.length = (some_of f (fun _ => false)).toArray := by
  apply Array.ext
  · simp [some_of, size_madeCells]
  · intro i h1 h2
    simp [madeCells, some_of, Nat.mod_one]
section
variable {P : Program} (w : World) {ops : Array Oper} {rest : List Oper} {o : Oper} {a : Act} {Q : Exit → Act → World → Prop}
theorem wpList_range_frs (hg : o.guard = none) (m : Operand) (hop : o.op = Op.range 64 m) (mb : Nat) (f : Dm.F) (hm : a.eval m = .map (some mb)) (h : Frs w mb f)
    (hK : ∀ w', Rng w' w.heap.size mb f (fun _ => false) f.length → w.grownBy w' none → w'.heap.size = w.heap.size + 1 → wpList Try.prog ops Q rest (a.put o.dst (.pointer (some ⟨w.heap.size, 0, none⟩))) w') :
    wpList Try.prog ops Q (o :: rest) a w := by
  refine wpList_plain hg fun K' hK' => ?_
  obtain ⟨w', hrun, r1, r2, r3⟩ := frs_range h
  unfold Oper.wp
  simp [execOp, hop, hm, hrun, Result.andThen]
  exact hK' _ _ (hK w' r1 r2 r3)
theorem wpList_next_frs (hg : o.guard = none) (it : Operand) (hop : o.op = Op.next it false) (r mb : Nat) (f : Dm.F) (d : Nat → Bool) (c : Nat) (hit : a.eval it = .pointer (some ⟨r, 0, none⟩)) (h : Rng w r mb f d c)
    (hDone : (∀ i, i < f.length → d i = true) → wpList Try.prog ops Q rest (a.put o.dst (.tuple #[.bool false])) w)
    (hMore : ∀ i k b w' c', f[i]? = some (k, b) → Rng w' r mb f (fun j => d j || j == i) c' → c' < c → w.grownBy w' (some r) → w'.heap.size = w.heap.size →
      (Instr.entry (.pointer (some ⟨r, 0, none⟩))).run Try.prog w' = .ok (.tuple #[.int .i64 ((k : Nat) : Int), .agg (wvc i b).toArray]) w' → wpList Try.prog ops Q rest (a.put o.dst (.tuple #[.bool true, .int .i64 ((k : Nat) : Int), .agg (wvc i b).toArray])) w') :
    wpList Try.prog ops Q (o :: rest) a w := by
  refine wpList_plain hg fun K' hK' => ?_
  unfold Oper.wp
  rcases frs_next h o.type with ⟨h0, hrun⟩ | ⟨i, x, w', c', hx, hd, hrun, hrg, hlt, hgr, hsz, hen⟩
  · simp [execOp, hop, hit, hrun, Result.andThen]
    exact hK' _ _ (hDone h0)
  · simp [execOp, hop, hit, hrun, Result.andThen]
    exact hK' _ _ (hMore i x.1 x.2 w' c' hx hrg hlt hgr hsz hen)
end
theorem dirty_nil {w : World} : Calls Try.prog 29 #[.pointer none] w fun e w' => e = .returned (.slice none 0 0) ∧ w = w' := by
  go_enter Try.func29, Try.ntmps29
  go_wp2
  go_ret
  exact ⟨rfl, rfl⟩
set_option maxHeartbeats 4000000 in
theorem dirty_any {p bb mb n : Nat} {a : Dm.A} {w : World} (h : Dk w p bb mb a n) : Calls Try.prog 29 #[.pointer (some ⟨p, 0, none⟩)] w fun e w' =>
    ∃ g, e = .returned (.slice (some ⟨g, 0, none⟩) a.fresh.length a.fresh.length) ∧ Whole w' g 3 (ints (a.fresh.map (·.1))).toArray ∧ w.heap.size ≤ g ∧ Below w.heap.size w w' := by
  obtain ⟨f, hf⟩ : ∃ f, a.fresh = f := ⟨_, rfl⟩
  have hfr : Frs w mb f := hf ▸ h.map
  have hfok : Dm.Fok f n := hf ▸ h.ok.fok
  have hn := h.ok.small
  have hsz := hfok.size
  have c1 := h.c1
  obtain ⟨K, hK⟩ : ∃ K, f.length = K := ⟨_, rfl⟩
  have hlen : ∀ ty, (Builtin.len_ #[64] ty #[.map (some mb)]).run Try.prog w = .ok (.int .i64 (K : Int)) w := fun ty => by rw [frs_len hfr ty, hK]
  have hmk := make_ints K (by omega)
  have hb0 : Below w.heap.size w (w.alloc (.cells (madeCells #[Value.int .i64 0] K) 3)) := (Below.refl _ _).alloc (Nat.le_refl _) _
  have hw0 : Whole (w.alloc (.cells (madeCells #[Value.int .i64 0] K) 3)) w.heap.size 3 (some_of f (fun _ => false)).toArray := by rw [← made_ints f, hK]; exact Whole.new w _ _
  have d1 : (w.alloc (.cells (madeCells #[Value.int .i64 0] K) 3)).cell? ⟨p, 1, none⟩ = some (.map (some mb)) := (World.cell?_of_block (w := w) (hb0.block p h.cells.lt)).trans c1
  have hfr0 : Frs (w.alloc (.cells (madeCells #[Value.int .i64 0] K) 3)) mb f := hfr.keep (hb0.block mb hfr.lt)
  have hml := hfr.lt
  have hs0 : w.heap.size + 1 = (w.alloc (.cells (madeCells #[Value.int .i64 0] K) 3)).heap.size := by simp
  have HFO := Lib.hid hfok
  have HF := Lib.hid hf
  have HK := Lib.hid hK
  have HS := Lib.hid (And.intro hb0 (And.intro hw0 (And.intro hfr0 (And.intro hml (And.intro hsz (And.intro hn hs0))))))
  clear hf hfr hfok hn hsz hK h hb0 hw0 hfr0 hml hs0
  obtain ⟨B, hB⟩ : ∃ B, w.heap.size = B := ⟨_, rfl⟩
  obtain ⟨w0, hw0⟩ : ∃ w0, w.alloc (.cells (madeCells #[Value.int .i64 0] K) 3) = w0 := ⟨_, rfl⟩
  have hmk' : (Instr.makeSlice 38 (.int .i64 (K : Int)) (.int .i64 (K : Int))).run Try.prog w = .ok (.slice (some ⟨B, 0, none⟩) K K) w0 := by rw [hmk w, hB, hw0]
  rw [hw0] at HS d1
  rw [hB] at HS
  have HB := Lib.hid hB
  clear hmk hw0 hB
  go_enter Try.func29, Try.ntmps29
  go_wp2_with (at_range; refine wpList_range_frs w0 rfl (.tmp 17) rfl mb f rfl HS.out.2.2.1 ?_; intro w1 hrg0 hg0 hs0)
  go_frame
  have hb1 : Below w0.heap.size w0 w1 := ⟨hg0.os, hg0.tape, hg0.output, hg0.size, fun i hi => hg0.block i hi (by simp)⟩
  obtain ⟨R, hR⟩ : ∃ R, w0.heap.size = R := ⟨_, rfl⟩
  rw [hR] at hrg0 hb1 hs0 HS
  rw [hR]
  have HR : Hid (R = B + 1 ∧ mb < B ∧ f.length ≤ n ∧ n ≤ 4096) := Lib.hid ⟨HS.out.2.2.2.2.2.2.symm, HS.out.2.2.2.1, HS.out.2.2.2.2.1, HS.out.2.2.2.2.2.1⟩
  have H0 : Hid (∃ d c, Rng w1 R mb f d c ∧ Whole w1 B 3 (some_of f d).toArray ∧ Below B w w1 ∧ R < w1.heap.size) := Lib.hid ⟨_, _, hrg0, HS.out.2.1.below hb1 (by have := HR.out; omega), HS.out.1.trans (hb1.mono (by have := HR.out; omega)), by omega⟩
  clear hrg0 hb1 hs0 hg0 hR HS d1 c1 hmk' hlen
  go_loopw [4] (fun _ wr => Hid (∃ d c, Rng wr R mb f d c ∧ Whole wr B 3 (some_of f d).toArray ∧ Below B w wr ∧ R < wr.heap.size)) (fun _ wr => wr.rangeLeft mb R)
  case atStart => exact H0
  case round =>
    clear H0
    obtain ⟨d, c, hrg, hwh, hbl, hrl⟩ := hrel.out
    have HQ := Lib.hid (And.intro hwh (And.intro hbl hrl))
    have HL := Lib.hid hrg.left
    have hzc := zero_wc
    clear hwh hbl hrl hrel
    go_wp2_with (at_next; refine wpList_next_frs wr rfl (.tmp 18) rfl R mb f d c rfl hrg ?_ ?_)
    · intro hall
      have HA := Lib.hid hall
      clear hall hrg hzc
      go_wp2
      go_ret
      refine ⟨B, ?_, ?_, by have := HB.out; omega, ?_⟩
      · rw [HF.out, HK.out]; rfl
      · rw [HF.out, ← some_all HA.out]; exact HQ.out.1
      · rw [HB.out]; exact HQ.out.2.1
    · intro i k b w2 c2 hx hrg2 hlt hg2 hs2 hen
      have hiK : i < K := by rw [← HK.out]; exact (List.getElem?_eq_some_iff.1 hx).1
      have hwB : Whole w2 B 3 (some_of f d).toArray := HQ.out.1.grown hg2 (by have := HR.out; intro e; injection e; omega)
      have hbl2 : Below B w w2 := HQ.out.2.1.trans ⟨hg2.os, hg2.tape, hg2.output, hg2.size, fun i hi => hg2.block i (by have := HQ.out.1.lt; omega) (by have := HR.out; intro e; injection e; omega)⟩
      have hBlt := hwB.lt
      have HE := Lib.hid hx
      obtain ⟨G, hG⟩ : ∃ G, w2.heap.size = G := ⟨_, rfl⟩
      have hRG : R < G := by have := HQ.out.2.2; omega
      have HM := Lib.hid (And.intro hrg2 (And.intro hwB (And.intro hbl2 (And.intro hlt (And.intro hRG hBlt)))))
      have HG := Lib.hid hG
      clear hx hrg2 hlt hs2 hg2 hwB hbl2 hRG hG hrg hBlt
      have hb64 : b.length = 64 := HFO.out.1 _ (List.mem_of_getElem? HE.out) |>.2.1
      have hc1 : (Try.prog.info? 88).map (·.size) = some (wvc i b).toArray.size := by rw [info_w]; simp [wvc_len i hb64]
      have hc2 : zwc.size = (wvc i b).toArray.size := by simp [wvc_len i hb64, zwc, nums_len]
      have hb3 : Below w2.heap.size w2 ((w2.alloc (.cells zwc 88)).setRow w2.heap.size (wvc i b).toArray) := below_row ((Below.refl _ _).alloc (Nat.le_refl _) _) (Nat.le_refl _) _
      have hw3 : Whole ((w2.alloc (.cells zwc 88)).setRow w2.heap.size (wvc i b).toArray) w2.heap.size 88 (wvc i b).toArray := (Whole.new w2 _ _).row _
      obtain ⟨w3, h3⟩ : ∃ w3, (w2.alloc (.cells zwc 88)).setRow w2.heap.size (wvc i b).toArray = w3 := ⟨_, rfl⟩
      rw [h3] at hb3 hw3
      have hwB3 : Whole w3 B 3 (some_of f d).toArray := HM.out.2.1.keep (hb3.block B HM.out.2.1.lt)
      have cG : w3.cell? ⟨w2.heap.size, 0, none⟩ = some (.int .i64 (i : Int)) := (hw3.cell 0).trans (by rw [List.getElem?_toArray]; rfl)
      obtain ⟨old, hold⟩ : ∃ old, w3.cell? ⟨B, i, none⟩ = some old := ⟨_, (hwB3.cell i).trans (Array.getElem?_eq_getElem (by rw [List.size_toArray, some_len, HK.out]; exact hiK))⟩
      have fB : w3.frozen? ⟨B, i, none⟩ = false := hwB3.frozen i
      have q0 : (i : Int) < (K : Int) := by omega
      have HC := Lib.hid (And.intro hc1 hc2)
      have H3 := Lib.hid h3
      have HN := Lib.hid (And.intro hb3 hwB3)
      clear hc1 hc2 h3 hb3 hw3 hwB3
      go_wp2_with ((with_reducible show wpList _ _ _ ((⟨_, Op.store 88 _ _, _, _, _, _⟩ : Oper) :: _) _ _); refine wpList_store_row rfl 88 (.tmp 5) (.tmp 23) rfl w2.heap.size (wvc i b).toArray rfl rfl 88 zwc (Whole.new w2 _ _) HC.out.1 HC.out.2 (wvc_all i b) ?_; rw [H3.out])
      have hR3 : Rng (w3.setCell ⟨B, i, none⟩ (.int .i64 (k : Int))) R mb f (fun j => d j || j == i) c2 := by
        have h1 := HR.out
        obtain ⟨r1, r2, r3, r4, r5, r6⟩ := HM.out
        refine r1.keep ?_ ?_
        · exact (Below.heap_setCell w3 ⟨B, i, none⟩ _ mb (by show mb ≠ B; omega)).trans (HN.out.1.block mb (by have := HG.out; omega))
        · exact (Below.heap_setCell w3 ⟨B, i, none⟩ _ R (by show R ≠ B; omega)).trans (HN.out.1.block R (by have := HG.out; omega))
      have HRR := Lib.hid hR3
      clear hR3
      go_roundw
      case rel =>
        refine Lib.hid ⟨fun j => d j || j == i, c2, HRR.out, ?_, ?_, ?_⟩
        · have := HN.out.2.set i (.int .i64 (k : Int))
          rw [some_set HE.out] at this
          exact this
        · exact (HM.out.2.2.1.trans (HN.out.1.mono (by have := HM.out.2.2.2.2.2; omega))).setCell (Nat.le_refl _) _
        · have h1 := HM.out.2.2.2.2.1
          have h2 := HN.out.1.size
          have h3 := HG.out
          show R < (w3.setCell ⟨B, i, none⟩ _).heap.size
          simp [World.setCell]
          omega
      case measure =>
        rw [HRR.out.left, HL.out]
        exact HM.out.2.2.2.1
end Go.Proofs.Ytfecobkpdmjaeaa
