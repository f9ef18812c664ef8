/-
  The walks of Flush and Crash.
-/
import Derived.Test.YtfecobkpdmjaeaaZi
namespace Go.Proofs.Ytfecobkpdmjaeaa
open Go.RowKit Go.ChangeMaps Go.MapKept
set_option linter.unusedVariables false
set_option maxRecDepth 20000
set_option linter.unusedSimpArgs false
/-- A slice of numbers. -/
def Its (w : World) (S : Nat → Prop) (a : Option Addr) (n : Nat) (l : List Int) : Prop :=
  l.length = n ∧ (n = 0 ∨ ∃ b off, a = some ⟨b, off, none⟩ ∧ S b ∧ b < w.heap.size ∧ ∀ k, k < n → w.cell? ⟨b, off + k, none⟩ = some (.int .i64 (l.getD k 0)))
theorem Its.keep {w w' : World} {S : Nat → Prop} {a : Option Addr} {n : Nat} {l : List Int} (h : Its w S a n l) (hz : w.heap.size ≤ w'.heap.size) (hk : ∀ b, b < w.heap.size → S b → w'.heap[b]? = w.heap[b]?) : Its w' S a n l := by
  obtain ⟨h1, h2⟩ := h
  refine ⟨h1, ?_⟩
  rcases h2 with h | ⟨b, off, rfl, hs, hb, hc⟩
  · exact Or.inl h
  · refine Or.inr ⟨b, off, rfl, hs, by omega, fun k hk' => ?_⟩
    rw [← hc k hk']
    exact World.cell?_of_block (w := w) (hk b hb hs)
theorem Its.weak {w : World} {S S' : Nat → Prop} {a : Option Addr} {n : Nat} {l : List Int} (h : Its w S a n l) (hs : ∀ b, b < w.heap.size → S b → S' b) : Its w S' a n l := by
  obtain ⟨h1, h2⟩ := h
  refine ⟨h1, ?_⟩
  rcases h2 with h | ⟨b, off, rfl, hs', hb, hc⟩
  · exact Or.inl h
  · exact Or.inr ⟨b, off, rfl, hs b hb hs', hb, hc⟩
theorem frs_clear' {w : World} {mb : Nat} {f : Dm.F} (h : Frs w mb f) : ∃ w', (∀ ty, (Builtin.clear_ #[64] ty #[.map (some mb)]).run Try.prog w = .ok (.tuple #[]) w') ∧ Frs w' mb [] ∧ w.grownBy w' (some mb) ∧ w'.heap.size = w.heap.size := by
  obtain ⟨es, clock, hb, hs, he⟩ := h
  refine ⟨setBlock w mb (.map #[] clock), fun ty => by simp [Builtin.clear_, run_underlying und_map, MapKept.run_getObj_map hb, MapKept.run_setObj_map _ hb, Result.andThen, setBlock], ⟨#[], clock, heap_setBlock_same hb _, stamped_empty clock, rfl⟩, ⟨rfl, rfl, rfl, by simp [setBlock], fun i _ hi => heap_setBlock_other hb _ (fun e => hi (by rw [e]))⟩, by simp [setBlock]⟩
theorem ints_cell {w : World} {g : Nat} {l : List Nat} (h : Whole w g 3 (ints l).toArray) {i k : Nat} (hi : l[i]? = some k) : w.cell? ⟨g, i, none⟩ = some (.int .i64 (k : Int)) := by
  rw [h.cell, List.getElem?_toArray]
  simp [ints, hi]
theorem flush_bad {v : Value} {E : Int} {w : World} (hf : Calls Try.prog 45 #[v] w fun e w'' => e = .returned (.int .i64 E) ∧ w = w'') (hE : E ≠ 0) :
    Calls Try.prog 44 #[v] w fun e w' => e = .returned (.int .i64 E) ∧ w = w' := by
  have h1 : (E == 0) = false := by simpa using hE
  go_enter Try.func44, Try.ntmps44
  go_wp2_with (go_at_call 45; refine hf.mono ?_; rintro e w' ⟨rfl, rfl⟩)
  go_ret
  exact ⟨rfl, rfl⟩
theorem crash_bad {v : Value} {E : Int} {w : World} {fs : Value} (hf : Calls Try.prog 45 #[v] w fun e w'' => e = .returned (.int .i64 E) ∧ w = w'') (hE : E ≠ 0) :
    Calls Try.prog 19 #[v, fs] w fun e w' => e = .returned (.tuple #[]) ∧ w = w' := by
  have h1 : (E == 0) = false := by simpa using hE
  go_enter Try.func19, Try.ntmps19
  go_wp2_with (go_at_call 45; refine hf.mono ?_; rintro e w' ⟨rfl, rfl⟩)
  exact bodyPost_ret (v := .tuple #[]) (by simp [results, Try.results19]) rfl ⟨rfl, rfl⟩
set_option maxHeartbeats 4000000 in
theorem flush_any {p bb mb n : Nat} {a : Dm.A} {w : World} (h : Dk w p bb mb a n) (hd : a.down = false) :
    Calls Try.prog 44 #[.pointer (some ⟨p, 0, none⟩)] w fun e w' => e = .returned (.int .i64 0) ∧ Dk w' p bb mb (Dm.flush a) n ∧ Only [p, bb, mb] w w' := by
  have H := Lib.hid (And.intro h hd)
  have c2 : w.cell? ⟨p, 2, none⟩ = some (.bool false) := by rw [h.c2, hd]
  clear h hd
  go_enter Try.func44, Try.ntmps44
  go_wp2_with (first | (go_at_call 45; refine (ready_up c2).mono ?_; rintro e w' ⟨rfl, rfl⟩) | fail)
  refine (dirty_any H.out.1).mono ?_
  rintro e w1 ⟨g, rfl, hg, hgw, hb⟩
  obtain ⟨K, hK⟩ : ∃ K, a.fresh.length = K := ⟨_, rfl⟩
  rw [hK]
  have hd1 := H.out.1.old hb
  have hgl := hg.lt
  have H0 : Hid (Dk w1 p bb mb { a with last := Dm.layAll a.last ((a.fresh.take 0).map fun x => (x, 64)) } n ∧ Only [p, bb, mb] w w1 ∧ Whole w1 g 3 (ints (a.fresh.map (·.1))).toArray) := Lib.hid ⟨hd1, Only.of_below hb, hg⟩
  have HK := Lib.hid (And.intro hK (And.intro hgw hgl))
  clear hd1 hb hg hK hgw hgl c2
  have hKm : K ≤ 4096 := by have := H.out.1.ok.fok.size; have := H.out.1.ok.small; have := HK.out.1; omega
  go_wp2
  go_loopw [14] (fun v wr => ∃ i : Nat, i ≤ K ∧ v = .int .i64 (i : Int) ∧ Hid (Dk wr p bb mb { a with last := Dm.layAll a.last ((a.fresh.take i).map fun x => (x, 64)) } n ∧ Only [p, bb, mb] w wr ∧ Whole wr g 3 (ints (a.fresh.map (·.1))).toArray)) (fun v _ => K - (intOf v).toNat)
  case atStart => exact ⟨0, Nat.zero_le _, rfl, H0⟩
  case round =>
    clear H0
    obtain ⟨i, hi, rfl, HB⟩ := hrel
    by_cases hlt : i < K
    · obtain ⟨x, hx⟩ : ∃ x, a.fresh[i]? = some x := ⟨_, List.getElem?_eq_getElem (by rw [HK.out.1]; exact hlt)⟩
      obtain ⟨k, b⟩ := x
      have ck := ints_cell HB.out.2.2 (i := i) (k := k) (by simp [hx])
      have hkn : k < n := (H.out.1.ok.fok.1 _ (List.mem_of_getElem? hx)).1
      have HX := Lib.hid (And.intro hx hkn)
      clear hx hkn
      go_wp2_with (go_at_call 46; refine (lay_any HB.out.1 HX.out.2 (Dm.look_of_get H.out.1.ok.fok HX.out.1)).mono ?_; rintro e w2 ⟨rfl, hd2, hg2⟩)
      go_roundw
      case rel =>
        refine ⟨i + 1, by omega, by go_num, Lib.hid ⟨?_, HB.out.2.1.trans (Only.of_grown hg2 (by simp)), HB.out.2.2.grown hg2 ?_⟩⟩
        · rw [List.take_succ_eq_append_getElem (by rw [HK.out.1]; exact hlt), List.map_append, List.map_singleton, Dm.layAll_snoc]
          have e : a.fresh[i]'(by rw [HK.out.1]; exact hlt) = (k, b) := by
            have := HX.out.1
            rw [List.getElem?_eq_getElem (by rw [HK.out.1]; exact hlt)] at this
            exact Option.some.inj this
          rw [e]
          exact hd2
        · intro e
          injection e with e
          have h1 := HB.out.2.2
          have h2 := HB.out.1.bytes
          rw [← e] at h2
          unfold Whole at h1 h2
          rw [h1] at h2
          injection h2 with h3
          injection h3 with _ h4
          exact absurd h4 (by decide)
      case measure => simp [intOf]; omega
    · have hiK : i = K := by omega
      subst hiK
      have c1 := HB.out.1.c1
      obtain ⟨w9, hclr, hf9, hg9, hs9⟩ := frs_clear' HB.out.1.map
      have hd9 : Dk w9 p bb mb (Dm.flush a) n := by
        have hh := HB.out.1
        have e : Dm.layAll a.last ((a.fresh.take i).map fun x => (x, 64)) = Dm.now a := by
          rw [List.take_of_length_le (by rw [HK.out.1]; exact Nat.le_refl _), Dm.now_is H.out.1.ok]
        rw [e] at hh
        exact ⟨hh.cells.keep (hg9.block p hh.cells.lt (by have := hh.ne2; intro e; injection e; omega)), hh.bytes.keep (hg9.block bb hh.bytes.lt (by have := hh.ne3; intro e; injection e; omega)), hf9, Dm.flush_ok H.out.1.ok⟩
      have H9 := Lib.hid (And.intro hd9 (HB.out.2.1.trans (Only.of_grown hg9 (by simp))))
      have q1 : ¬ ((i : Int) < (i : Int)) := by omega
      clear hd9 hf9 hg9 hs9 hlt hi hKm
      go_wp2
      go_ret
      exact ⟨rfl, H9.out⟩
set_option maxHeartbeats 4000000 in
theorem crash_any {p bb mb n fl fc : Nat} {fa : Option Addr} {fs : List Int} {a : Dm.A} {w : World} (h : Dk w p bb mb a n) (hd : a.down = false) (hits : Its w (fun b => b ≠ p ∧ b ≠ bb ∧ b ≠ mb) fa fl fs) (hfl : fl ≤ maxLen) :
    Calls Try.prog 19 #[.pointer (some ⟨p, 0, none⟩), .slice fa fl fc] w fun e w' => e = .returned (.tuple #[]) ∧ Dk w' p bb mb (Dm.crash a fs) n ∧ Only [p, bb, mb] w w' := by
  unfold maxLen at hfl
  have H := Lib.hid (And.intro h hd)
  have c2 : w.cell? ⟨p, 2, none⟩ = some (.bool false) := by rw [h.c2, hd]
  have HI0 := Lib.hid hits
  clear h hd hits
  go_enter Try.func19, Try.ntmps19
  go_wp2_with (first | (go_at_call 45; refine (ready_up c2).mono ?_; rintro e w' ⟨rfl, rfl⟩) | fail)
  refine (dirty_any H.out.1).mono ?_
  rintro e w1 ⟨g, rfl, hg, hgw, hb⟩
  obtain ⟨K, hK⟩ : ∃ K, a.fresh.length = K := ⟨_, rfl⟩
  rw [hK]
  have hd1 := H.out.1.old hb
  have hgl := hg.lt
  have HLF : Hid (fs.length = fl) := Lib.hid HI0.out.1
  have H0 : Hid (Dk w1 p bb mb { a with last := Dm.layAll a.last ((a.fresh.take 0).zip fs) } n ∧ Only [p, bb, mb] w w1 ∧ Whole w1 g 3 (ints (a.fresh.map (·.1))).toArray ∧ Its w1 (fun b => b ≠ p ∧ b ≠ bb ∧ b ≠ mb) fa fl fs) := Lib.hid ⟨hd1, Only.of_below hb, hg, HI0.out.keep hb.size (fun b hb' _ => hb.block b hb')⟩
  have HK := Lib.hid (And.intro hK (And.intro hgw hgl))
  clear hd1 hb hg hK hgw hgl c2 HI0
  have hKm : K ≤ 4096 := by have := H.out.1.ok.fok.size; have := H.out.1.ok.small; have := HK.out.1; omega
  go_wp2
  go_loopw [12] (fun v wr => ∃ i : Nat, i ≤ K ∧ v = .int .i64 (i : Int) ∧ Hid (Dk wr p bb mb { a with last := Dm.layAll a.last ((a.fresh.take i).zip fs) } n ∧ Only [p, bb, mb] w wr ∧ Whole wr g 3 (ints (a.fresh.map (·.1))).toArray ∧ Its wr (fun b => b ≠ p ∧ b ≠ bb ∧ b ≠ mb) fa fl fs)) (fun v _ => K - (intOf v).toNat)
  case atStart => exact ⟨0, Nat.zero_le _, rfl, H0⟩
  case round =>
    clear H0
    obtain ⟨i, hi, rfl, HB⟩ := hrel
    by_cases hlt : i < K
    · obtain ⟨x, hx⟩ : ∃ x, a.fresh[i]? = some x := ⟨_, List.getElem?_eq_getElem (by rw [HK.out.1]; exact hlt)⟩
      obtain ⟨k, b⟩ := x
      have ck := ints_cell HB.out.2.2.1 (i := i) (k := k) (by simp [hx])
      have hkn : k < n := (H.out.1.ok.fok.1 _ (List.mem_of_getElem? hx)).1
      have HX := Lib.hid (And.intro hx hkn)
      clear hx hkn
      by_cases hfi : i < fl
      · obtain ⟨z, hz⟩ : ∃ z, fs.getD i 0 = z := ⟨_, rfl⟩
        have hzi : fs[i]? = some z := by
          rw [← hz, List.getElem?_eq_getElem (by rw [HLF.out]; exact hfi)]
          simp [HLF.out, hfi]
        obtain ⟨fb, fo, hfa, _, _, hfc⟩ : ∃ b off, fa = some ⟨b, off, none⟩ ∧ (b ≠ p ∧ b ≠ bb ∧ b ≠ mb) ∧ b < wr.heap.size ∧ ∀ k, k < fl → wr.cell? ⟨b, off + k, none⟩ = some (.int .i64 (fs.getD k 0)) := by
          rcases HB.out.2.2.2.2 with h | h
          · omega
          · exact h
        have cf : wr.cell? ⟨fb, fo + i, none⟩ = some (.int .i64 z) := by rw [hfc i hfi, hz]
        subst hfa
        have HZ := Lib.hid hzi
        have q1 : (i : Int) < (fl : Int) := by omega
        clear hz hzi hfc
        go_wp2_with (go_at_call 46; refine (lay_any HB.out.1 HX.out.2 (Dm.look_of_get H.out.1.ok.fok HX.out.1)).mono ?_; rintro e w2 ⟨rfl, hd2, hg2⟩)
        go_roundw
        case rel =>
          refine ⟨i + 1, by omega, by go_num, Lib.hid ⟨?_, HB.out.2.1.trans (Only.of_grown hg2 (by simp)), HB.out.2.2.1.grown hg2 ?_, HB.out.2.2.2.keep hg2.size (fun b hb' hs => hg2.block b hb' (by intro e; injection e with e; exact hs.2.1 e))⟩⟩
          · rw [Dm.zip_take_succ HX.out.1 HZ.out, Dm.layAll_snoc]
            exact hd2
          · intro e
            injection e with e
            have h1 := HB.out.2.2.1
            have h2 := HB.out.1.bytes
            rw [← e] at h2
            unfold Whole at h1 h2
            rw [h1] at h2
            injection h2 with h3
            injection h3 with _ h4
            exact absurd h4 (by decide)
        case measure => simp [intOf]; omega
      · have q1 : ¬ ((i : Int) < (fl : Int)) := by omega
        go_wp2
        go_roundw
        case rel =>
          refine ⟨i + 1, by omega, by go_num, Lib.hid ⟨?_, HB.out.2.1, HB.out.2.2.1, HB.out.2.2.2⟩⟩
          rw [Dm.zip_take_past (by rw [HLF.out]; omega)]
          exact HB.out.1
        case measure => simp [intOf]; omega
    · have hiK : i = K := by omega
      subst hiK
      have c1 := HB.out.1.c1
      obtain ⟨w9, hclr, hf9, hg9, hs9⟩ := frs_clear' HB.out.1.map
      have hlast : Dm.layAll a.last ((a.fresh.take i).zip fs) = Dm.layAll a.last (a.fresh.zip fs) := by rw [List.take_of_length_le (by rw [HK.out.1]; exact Nat.le_refl _)]
      have hh := HB.out.1
      rw [hlast] at hh
      have kp : w9.heap[p]? = wr.heap[p]? := hg9.block p hh.cells.lt (by have := hh.ne2; intro e; injection e; omega)
      have kb : w9.heap[bb]? = wr.heap[bb]? := hg9.block bb hh.bytes.lt (by have := hh.ne3; intro e; injection e; omega)
      have f9 : w9.frozen? ⟨p, 2, none⟩ = false := (hh.cells.keep kp).frozen 2
      have c9 : w9.cell? ⟨p, 2, none⟩ = some (.bool a.down) := (hh.cells.keep kp).cell 2
      have hd10 : Dk (w9.setCell ⟨p, 2, none⟩ (.bool true)) p bb mb (Dm.crash a fs) n := by
        refine ⟨?_, (hh.bytes.keep kb).far hh.ne1.symm _, hf9.keep (Below.heap_setCell w9 ⟨p, 2, none⟩ _ mb (fun e => hh.ne2 e.symm)), Dm.crash_ok H.out.1.ok fs⟩
        have := (hh.cells.keep kp).set 2 (.bool true)
        exact this
      have hc9 : w9.cell? ⟨p, 1, none⟩ = some (.map (some mb)) := (hh.cells.keep kp).cell 1
      have hg10 : w9.grownBy (w9.setCell ⟨p, 2, none⟩ (.bool true)) (some p) := ⟨rfl, rfl, rfl, by simp [World.setCell], fun k _ hne => Below.heap_setCell w9 ⟨p, 2, none⟩ _ k (fun e => hne (by rw [e]))⟩
      have H9 := Lib.hid (And.intro hd10 ((HB.out.2.1.trans (Only.of_grown hg9 (by simp))).trans (Only.of_grown hg10 (by simp))))
      have q1 : ¬ ((i : Int) < (i : Int)) := by omega
      clear hd10 hf9 hg9 hs9 hlt hi hKm hlast hh kp kb hg10
      go_wp2
      go_end0
      exact ⟨rfl, H9.out⟩
end Go.Proofs.Ytfecobkpdmjaeaa
