/-
  What the package's functions are to answer (Trn); the walk of the statements' awake.
-/
import Derived.Test.YtiogfkhmigbgpaaDoorXe
import Derived.Lib.SlBytesConst
import Derived.Deep.RegionHeld3
namespace Go.Proofs.YtiogfkhmigbgpaaDoor
open Go.RowKit Go.Great
set_option linter.unusedVariables false
set_option linter.unusedSimpArgs false
set_option maxRecDepth 20000
/-- Chunks and an error are answered: chunks that were handed in, or new ones. -/
def TkS (w : World) (S : Nat → Prop) (l : List Bool) (x : Int) (e : Ending) (w' : World) : Prop := ∃ a n c, e = .returned (.tuple #[.slice a n c, .int .i64 x]) ∧ n ≤ c ∧ BE.Row w' (fun b => S b ∨ w.heap.size ≤ b) a n l ∧ Below w.heap.size w w'
/-- What the package's functions are to answer. -/
structure Trn : Prop where
  none : ∀ {w : World} {S : Nat → Prop} {P : Array Value} {m : Mf.Man}, Mv w S (.agg P) m → m.ds.length ≤ 1000 → Calls Tryd.prog 19 #[.agg P] w (BoQ w (List.replicate m.ds.length false))
  done : ∀ {w : World} {S : Nat → Prop} {a : Option Addr} {n c : Nat} {l : List Bool}, BE.Row w S a n l → n ≤ 1000 → Calls Tryd.prog 13 #[.slice a n c] w fun e w' => e = .returned (.bool (Tr.done l)) ∧ Below w.heap.size w w'
  missing : ∀ {w : World} {S : Nat → Prop} {a : Option Addr} {n c : Nat} {l : List Bool}, BE.Row w S a n l → n ≤ 1000 → Calls Tryd.prog 12 #[.slice a n c] w fun e w' => e = .returned (.int .i64 (Tr.missing l : Int)) ∧ Below w.heap.size w w'
  pick : ∀ {w : World} {S S' : Nat → Prop} {a b : Option Addr} {n c m c' : Nat} {hv : List Bool} {ps : List (List Bool)}, BE.Row w S a n hv → Bns w S' b m ps → n ≤ 1000 → m ≤ 1000 → ∀ d : Int, 0 ≤ d → d < 18446744073709551616 →
    Calls Tryd.prog 9 #[.slice a n c, .slice b m c', .int .u64 d] w fun e w' => e = .returned (.tuple #[.int .i64 (Tr.pick hv ps d).1, .int .i64 (Tr.pick hv ps d).2.1, .bool (Tr.pick hv ps d).2.2]) ∧ Below w.heap.size w w'
  take : ∀ {w : World} {S S1 S2 : Nat → Prop} {P : Array Value} {m : Mf.Man}, Mv w S (.agg P) m → ∀ {a : Option Addr} {n c : Nat} {hv : List Bool}, BE.Row w S1 a n hv → n ≤ 1000 → n ≤ c → ∀ (i : Int), In64 i → ∀ {a0 : Option Addr} {n0 p0 : Nat} {l0 : List Int}, Txt w S2 a0 n0 p0 l0 → n0 ≤ 800000 → Roots w →
    Calls Tryd.prog 14 #[.agg P, .slice a n c, .int .i64 i, .slice a0 n0 p0] w (TkS w S1 (Tr.take m hv i l0).1 (Tr.take m hv i l0).2)
  find : ∀ {w : World} {S S2 : Nat → Prop} {P : Array Value} {m : Mf.Man}, Mv w S (.agg P) m → m.ds.length ≤ 1000 → ∀ {a0 : Option Addr} {n0 p0 : Nat} {l0 : List Int}, Txt w S2 a0 n0 p0 l0 → n0 ≤ 800000 → Roots w →
    Calls Tryd.prog 17 #[.agg P, .slice a0 n0 p0] w (BoQ w (Tr.find m l0))
/-- At the head of all statements. -/
def Awake : Prop := ∀ w : World, Roots w → Calls Tryd.prog 8 #[] w fun e w' => e = .returned (.bool true) ∧ Below w.heap.size w w'
theorem bns_one {w : World} {S : Nat → Prop} {g : Nat} {ad : Option Addr} {m c : Nat} {l : List Bool} (h : Whole w g 22 #[.slice ad m c]) (hS : S g) (hr : BE.Row w S ad m l) : Bns w S (some ⟨g, 0, none⟩) 1 [l] :=
  ⟨rfl, Or.inr ⟨g, 0, rfl, hS, h.lt, fun k hk => by
    obtain rfl : k = 0 := by omega
    exact ⟨ad, m, c, by rw [Nat.zero_add, h.cell]; rfl, hr⟩⟩⟩
/-- A manifest was answered. -/
theorem mv_agg' {w : World} {S : Nat → Prop} {v : Value} {m : Mf.Man} (h : Mv w S v m) : ∃ P, v = .agg P ∧ P.size = 35 ∧ P.all (·.oneCell') = true := by
  obtain ⟨a, n, c, rfl, hnc, hd, hw, hs, hc⟩ := h
  exact ⟨_, rfl, msize hw.1, mcs_one rfl⟩
theorem mb_put {w : World} {P : Array Value} {m : Mf.Man} {S : Nat → Prop} (h : Mv w S (.agg P) m) : MB ((w.alloc (.cells zm 34)).setRow w.heap.size P) (fun b => b < w.heap.size) w.heap.size P m :=
  ⟨(Whole.new w 34 zm).row P, h.old.below (below_row (below_alloc w (.cells zm 34)) (Nat.le_refl _) P) (fun _ _ h => h)⟩
theorem build_any {w : World} {S : Nat → Prop} {a : Option Addr} {n c : Nat} {img : List Int} {ch : Int} (ht : Txt w S a n c img) (hch : In64 ch) (hn : n ≤ 800000) (hR : Roots w) :
    Calls Tryd.prog 20 #[.slice a n c, .int .i64 ch] w (Bldd w img ch) := by
  by_cases h : Mf.cnt img.length ch = 0
  · exact build_bad ht hch hn h
  · have hi := Mf.cnt_in h
    obtain ⟨k, rfl⟩ : ∃ k : Nat, ch = (k : Int) := ⟨ch.toNat, by omega⟩
    exact build_good ht hn hR h
theorem txt_new {w : World} {t : TypeId} {fr : Nat × Nat} {l : List Int} {n : Nat} (S : Nat → Prop) (hS : S w.heap.size) (hb : Byt l) (hn : l.length = n) : Txt (w.alloc (.cells (nums l).toArray t fr)) S (some ⟨w.heap.size, 0, none⟩) n n l := by
  refine ⟨hn, Nat.le_refl _, hb, Or.inr ⟨w.heap.size, 0, rfl, hS, by rw [size_alloc]; omega, fun j hj => ?_⟩⟩
  rw [cell_of_row _ w.heap.size (0 + j) _ t fr (heap_alloc_new w _), Nat.zero_add, List.getElem?_toArray, nums_get _ _ (by omega)]
/-- Three literals: bools, bools, and a row of the latter. -/
theorem lits {w w3 : World} {l1 l2 : List Bool} (hw : ((w.alloc (.cells (l1.map Value.bool).toArray 4)).alloc (.cells (l2.map Value.bool).toArray 4)).alloc (.cells #[.slice (some ⟨w.heap.size + 1, 0, none⟩) l2.length l2.length] 22) = w3) :
    BE.Row w3 Any (some ⟨w.heap.size, 0, none⟩) l1.length l1 ∧ Bns w3 Any (some ⟨w.heap.size + 1 + 1, 0, none⟩) 1 [l2] ∧ Below w.heap.size w w3 := by
  have b1 := below_alloc w (.cells (l1.map Value.bool).toArray 4)
  have r1 : BE.Row (w.alloc (.cells (l1.map Value.bool).toArray 4)) Any (some ⟨w.heap.size, 0, none⟩) l1.length l1 := be_whole (Whole.new w _ _) trivial
  have b2 := below_alloc (w.alloc (.cells (l1.map Value.bool).toArray 4)) (.cells (l2.map Value.bool).toArray 4)
  have r2 : BE.Row ((w.alloc (.cells (l1.map Value.bool).toArray 4)).alloc (.cells (l2.map Value.bool).toArray 4)) Any (some ⟨w.heap.size + 1, 0, none⟩) l2.length l2 := by
    have := Whole.new (w.alloc (.cells (l1.map Value.bool).toArray 4)) 4 (l2.map Value.bool).toArray
    rw [size_alloc] at this
    exact be_whole this trivial
  obtain ⟨w2, hw2⟩ : ∃ w2, (w.alloc (.cells (l1.map Value.bool).toArray 4)).alloc (.cells (l2.map Value.bool).toArray 4) = w2 := ⟨_, rfl⟩
  have hz : w2.heap.size = w.heap.size + 1 + 1 := by rw [← hw2, size_alloc, size_alloc]
  have r1' := r1.on b2
  rw [hw2] at hw r1' r2 b2
  have b3 := below_alloc w2 (.cells #[.slice (some ⟨w.heap.size + 1, 0, none⟩) l2.length l2.length] 22)
  have k3 := Whole.new w2 22 #[.slice (some ⟨w.heap.size + 1, 0, none⟩) l2.length l2.length]
  rw [hw] at b3 k3
  rw [hz] at k3
  exact ⟨r1'.on b3, bns_one k3 trivial (r2.on b3), (b1.trans (b2.mono (by rw [size_alloc]; omega))).trans (b3.mono (by omega))⟩
/-- Tables and what was there stay. -/
theorem keeps {w0 w w' : World} (h : Roots w ∧ Below w0.heap.size w0 w) (hb : Below w.heap.size w w') : Roots w' ∧ Below w0.heap.size w0 w' := ⟨h.1.below hb h.1.two, h.2.trans (hb.mono h.2.size)⟩
/-- '[]byte("..")' of a constant: the row gets its mark, wherever it lies. -/
theorem convert_mark {w : World} {g n c : Nat} {C : Array Value} (hg : w.heap[g]? = some (.cells C 5 (0, 0))) :
    ∃ w', (convert 35 35 (.slice (some ⟨g, 0, none⟩) n c)).run Tryd.prog w = .ok (.slice (some ⟨g, 0, none⟩) n c) w' ∧ w'.heap[g]? = some (.cells C 5 (C.size, C.size + 1)) ∧ (∀ k, k ≠ g → w'.heap[k]? = w.heap[k]?) ∧ w'.heap.size = w.heap.size ∧ w'.os = w.os ∧ w'.tape = w.tape ∧ w'.output = w.output := by
  have hsh : w.shape? g = some (5, C.size) := by unfold World.shape?; rw [hg]
  refine ⟨w.freeze ⟨g, C.size, none⟩ 1, ?_, ?_, ?_, ?_, ?_, ?_, ?_⟩
  · simp [convert, run_underlying Tryd.underlying35, run_underlying Tryd.underlying5, markStringish, hsh]
  · unfold World.freeze
    rw [if_neg (by decide)]
    show (w.heap.modify g _)[g]? = _
    rw [Array.getElem?_modify]
    simp [hg]
  · intro k hk
    unfold World.freeze
    rw [if_neg (by decide)]
    show (w.heap.modify g _)[k]? = _
    rw [Array.getElem?_modify, if_neg (by omega)]
  · unfold World.freeze
    rw [if_neg (by decide)]
    simp
  all_goals (unfold World.freeze; rw [if_neg (by decide)])
theorem mark_cells {w w' : World} {g : Nat} {C : Array Value} {T : TypeId} {fr fr' : Nat × Nat} (h0 : w.heap[g]? = some (.cells C T fr)) (h1 : w'.heap[g]? = some (.cells C T fr')) (h : ∀ k, k ≠ g → w'.heap[k]? = w.heap[k]?) (a : Addr) : w'.cell? a = w.cell? a := by
  by_cases hg : a.block = g
  · unfold World.cell?
    rw [hg, h0, h1]
  · unfold World.cell?
    rw [h _ hg]
theorem Elem.Row.same {α : Type} {E : Elem α} {w w' : World} {S : Nat → Prop} {a : Option Addr} {n : Nat} {l : List α} (h : E.Row w S a n l) (hz : w'.heap.size = w.heap.size) (hc : ∀ a, w'.cell? a = w.cell? a) : E.Row w' S a n l := by
  obtain ⟨h1, h2, h3⟩ := h
  refine ⟨h1, h2, ?_⟩
  rcases h3 with h | ⟨b, off, rfl, hs, hb, hc'⟩
  · exact Or.inl h
  · exact Or.inr ⟨b, off, rfl, hs, by omega, fun k hk j v hv => (hc _).trans (hc' k hk j v hv)⟩
theorem yields_mb {ops : Array Oper} {S : World → Prop} {op : Oper} {a : Act} (hw : Region.wanted op (yielded ops a.tmps) = true) (x : Operand) (ho : op.op = .load 34 x)
    (b : Nat) (hx : a.eval x = .pointer (some ⟨b, 0, none⟩)) (P : Array Value) (hV : P.size = 35) (hS : ∀ w, S w → Whole w b 34 P) : YieldsIf Tryd.prog ops S op (.agg P) a :=
  .inl ⟨hw, fun w hw' => by
    unfold execOp
    simp only [ho, hx, Instr.loadAt, Instr.sureAddr, Sem.run_bind, Sem.run_pure, Result.andThen_ok, run_loadVar_row w b 34 34 P (0, 0) _ (hS w hw') Tryd.underlying34 rfl (by rw [hV]; exact info35)]⟩
theorem mark_below {w w' : World} {g B : Nat} (hB : B ≤ g) (h : (∀ k, k ≠ g → w'.heap[k]? = w.heap[k]?) ∧ w'.heap.size = w.heap.size ∧ w'.os = w.os ∧ w'.tape = w.tape ∧ w'.output = w.output) : Below B w w' := ⟨h.2.2.1, h.2.2.2.1, h.2.2.2.2, by rw [h.2.1]; exact Nat.le_refl _, fun k hk => h.1 k (by omega)⟩
theorem txt_marked {w : World} {g n : Nat} {T : TypeId} {fr : Nat × Nat} {l : List Int} (h : w.heap[g]? = some (.cells (nums l).toArray T fr)) (hb : Byt l) (hn : l.length = n) : Txt w Any (some ⟨g, 0, none⟩) n n l :=
  ⟨hn, Nat.le_refl _, hb, Or.inr ⟨g, 0, rfl, trivial, (Array.getElem?_eq_some_iff.1 h).1, fun j hj => by rw [cell_of_row _ g (0 + j) _ T fr h, Nat.zero_add, List.getElem?_toArray, nums_get _ _ (by omega)]⟩⟩
def ab6 : List Int := [97, 98, 99, 100, 101, 102]
theorem cnt6 : Mf.cnt ab6.length 4 ≠ 0 := by decide
theorem bt6 : Tr.Bt ab6 4 2 (Mf.made ab6 4) := by
  obtain ⟨c, N, h1, h2, h3⟩ := Tr.bt_of cnt6
  obtain rfl : c = 4 := by omega
  have : N = 2 := by rw [h2]; decide
  subst this
  exact h3
theorem take1 : Tr.take (Mf.made ab6 4) [false, false] 1 [101, 102] = ([false, true], 0) := by
  have hv : Mf.ver (Mf.made ab6 4) 1 [101, 102] = 0 := bt6.ver (k := 1) (by omega) (by decide)
  unfold Tr.take
  rw [hv, if_neg (by simp), if_neg (by rw [bt6.len]; decide)]
  rfl
theorem take0 : Tr.take (Mf.made ab6 4) [false, true] 0 [101, 102] = ([false, true], 51) := by
  have hv : Mf.ver (Mf.made ab6 4) 0 [101, 102] = 51 := bt6.short (k := 0) (by omega) (by decide)
  unfold Tr.take
  rw [hv, if_pos (by decide)]
theorem find4 : Tr.find (Mf.made ab6 4) [97, 98, 99, 100] = [true, false] := by
  have h := bt6.begins (n := 4) (by decide)
  rw [show ab6.take 4 = [97, 98, 99, 100] by decide] at h
  rw [h]
  have h0 := bt6.til (k := 0) (by omega)
  have h1 := bt6.til (k := 1) (by omega)
  show [decide (Mf.til (Mf.made ab6 4) ((0 : Nat) : Int) ≤ 4), decide (Mf.til (Mf.made ab6 4) ((1 : Nat) : Int) ≤ 4)] = _
  rw [h0, h1]
  decide
set_option maxHeartbeats 16000000 in
theorem awake_walk (hg : Trn) : Awake := by
  intro w hR
  have HG := Lib.hid hg
  have HS : Hid (Roots w ∧ Below w.heap.size w w) := Lib.hid ⟨hR, Below.refl _ _⟩
  clear hg hR
  go_enter Tryd.func8, Tryd.ntmps8
  go_wp2_with fail
  obtain ⟨w3, hw3⟩ : ∃ w3, ((w.alloc (.cells #[.bool true, .bool false, .bool false] 4)).alloc (.cells #[.bool false, .bool false, .bool true] 4)).alloc (.cells #[.slice (some ⟨w.heap.size + 1, 0, none⟩) 3 3] 22) = w3 := ⟨_, rfl⟩
  have hl := lits (l1 := [true, false, false]) (l2 := [false, false, true]) hw3
  rw [hw3]
  have HL := Lib.hid hl
  have HS := Lib.hid (keeps HS.out hl.2.2)
  clear hl hw3
  refine (HG.out.pick HL.out.1 HL.out.2.1 (by decide) (by omega) 0 (by omega) (by omega)).mono ?_
  rintro e w4 ⟨rfl, hb⟩
  rw [show Tr.pick [true, false, false] [[false, false, true]] 0 = (2, 0, true) by decide +kernel]
  have HS := Lib.hid (keeps HS.out hb)
  clear hb HL
  go_wp2_with fail
  obtain ⟨w5, hw5⟩ : ∃ w5, ((w4.alloc (.cells #[.bool true, .bool true] 4)).alloc (.cells #[.bool true, .bool true] 4)).alloc (.cells #[.slice (some ⟨w4.heap.size + 1, 0, none⟩) 2 2] 22) = w5 := ⟨_, rfl⟩
  have hl := lits (l1 := [true, true]) (l2 := [true, true]) hw5
  rw [hw5]
  have HL := Lib.hid hl
  have HS := Lib.hid (keeps HS.out hl.2.2)
  clear hl hw5
  refine (HG.out.pick HL.out.1 HL.out.2.1 (by decide) (by omega) 0 (by omega) (by omega)).mono ?_
  rintro e w6 ⟨rfl, hb⟩
  rw [show Tr.pick [true, true] [[true, true]] 0 = (0, 0, false) by decide +kernel]
  have HS := Lib.hid (keeps HS.out hb)
  clear hb HL
  have kc := fun (w : World) (C : Array Value) (n c : Nat) => Lib.run_convert_bytes_const (P := Tryd.prog) w 35 5 C n c Tryd.underlying35 Tryd.underlying5
  go_wp2_with fail
  obtain ⟨w7, hw7⟩ : ∃ w7, w6.alloc (.cells #[.int .u8 97, .int .u8 98, .int .u8 99, .int .u8 100, .int .u8 101, .int .u8 102] 5 (6, 7)) = w7 := ⟨_, rfl⟩
  have hb7 : Below w6.heap.size w6 w7 := by rw [← hw7]; exact below_alloc _ _
  have ht7 : Txt w7 Any (some ⟨w6.heap.size, 0, none⟩) 6 6 ab6 := by rw [← hw7]; exact txt_new (l := ab6) Any trivial (fun x hx => by simp [ab6] at hx; omega) rfl
  rw [hw7]
  have HS := Lib.hid (keeps HS.out hb7)
  clear hw7 hb7 kc
  refine (build_any (img := ab6) (ch := 4) ht7 ⟨by decide, by decide⟩ (by omega) HS.out.1).mono ?_
  rintro e w8 ⟨⟨v, rfl, hmv⟩, hb⟩
  rw [(bld_made cnt6).1] at hmv
  rw [(bld_made cnt6).2]
  have HS := Lib.hid (keeps HS.out hb)
  obtain ⟨P, rfl, hP, hPa⟩ := mv_agg' hmv
  have HM : Hid (MB ((w8.alloc (.cells zm 34)).setRow w8.heap.size P) (fun b => b < w8.heap.size) w8.heap.size P (Mf.made ab6 4)) := Lib.hid (mb_put hmv)
  have HS := Lib.hid (keeps HS.out (show Below w8.heap.size w8 ((w8.alloc (.cells zm 34)).setRow w8.heap.size P) from below_row (below_alloc w8 _) (Nat.le_refl _) _))
  clear hb hmv ht7
  go_upto_region 4 with (first | ((with_reducible show wpList _ _ _ ((⟨_, Op.store 34 _ _, _, _, _, _⟩ : Oper) :: _) _ _); rw [zeroM, show (mcs 0 0 (.slice none 0 0) (zs 32)).toArray = zm from rfl]; refine wpList_store_row rfl _ (.tmp 7) (.tmp 34) rfl w8.heap.size P rfl rfl 34 _ (Whole.new w8 _ _) (by rw [hP]; exact info35) (by rw [hP]; rfl) hPa ?_) | fail)
  clear hPa
  obtain ⟨g7, hg7⟩ : ∃ g, w8.heap.size = g := ⟨_, rfl⟩
  rw [hg7] at HM HS ⊢
  clear hg7
  generalize (w8.alloc (.cells zm 34)).setRow g7 P = w9 at *
  try simp only [Act.put, List.getElem_toArray, List.getElem_cons_zero, List.getElem_cons_succ, List.setIfInBounds_toArray, List.set_cons_zero, List.set_cons_succ]
  go_cut [9, 10] (fun v x wx => ∃ a c, v = .slice a 2 c ∧ 2 ≤ c ∧ x = .int .i64 0 ∧ BE.Row wx Any a 2 [false, true] ∧ MB wx (fun b => b < g7) g7 P (Mf.made ab6 4) ∧ Roots wx ∧ Below w.heap.size w wx)
  case first => as_aux_lemma =>
    have HS := Lib.hid (keeps HS.out (Below.refl _ w9).drew)
    have HM := Lib.hid (HM.out.below (Below.refl _ w9).drew HM.out.1.lt (fun b h _ => h))
    have hk0 := HM.out.1
    refine wp_region_held_drew (S := fun wq => Whole wq g7 34 P) (by kernel_rfl) hk0 (fun hHeld => ?_)
    generalize w9.drew = wd at *
    clear hk0
    refine wpAnyH_take (i := 0) (v := .agg P) rfl (by kernel_rfl) (by kernel_rfl) (by kernel_rfl) (fun _ _ _ h => h) (yields_mb (by rfl) _ rfl g7 rfl P hP (fun wq hSw => hSw)) (by assumption) ?_
    try simp only [Act.put, List.getElem_toArray, List.getElem_cons_zero, List.getElem_cons_succ, List.setIfInBounds_toArray, List.set_cons_zero, List.set_cons_succ]
    refine wpAnyH_take (i := 1) (v := .agg P) rfl (by kernel_rfl) (by kernel_rfl) (by kernel_rfl) (fun _ _ _ h => h) (yields_mb (by rfl) _ rfl g7 rfl P hP (fun wq hSw => hSw)) (by assumption) ?_
    try simp only [Act.put, List.getElem_toArray, List.getElem_cons_zero, List.getElem_cons_succ, List.setIfInBounds_toArray, List.set_cons_zero, List.set_cons_succ]
    refine wpAnyH_ready (rs := [2, 3]) (by kernel_rfl) (by simp) (AllReadyH.cons rfl (fun K hK => ?_) (AllReadyH.cons rfl (fun K hK => ?_) AllReadyH.nil))
    · skip
      try simp only [List.getElem_toArray, List.getElem_cons_zero, List.getElem_cons_succ]
      go_simp
      refine (HG.out.none HM.out.2 (by rw [bt6.len]; omega)).mono ?_
      rintro e wa ⟨aN, nN, cN, rfl, ho, hb⟩
      obtain rfl : nN = 2 := by rw [← ho.len, bt6.len]; rfl
      have hr : List.replicate (Mf.made ab6 4).ds.length false = [false, false] := by rw [bt6.len]; rfl
      rw [hr] at ho
      have HN := Lib.hid (And.intro ho.any ho.cap)
      have HS := Lib.hid (keeps HS.out hb)
      have HM := Lib.hid (HM.out.below hb HM.out.1.lt (fun b h _ => h))
      skip
      clear ho hb hr hHeld
      have hk := HM.out.1
      go_wp2_with fail
      refine hK.out _ _ hk (fun hHeld => ?_)
      clear hK K hHeld
      try simp only [Act.put, List.getElem_toArray, List.getElem_cons_zero, List.getElem_cons_succ, List.setIfInBounds_toArray, List.set_cons_zero, List.set_cons_succ]
      have hHeld := hk
      clear hk
      refine wpAnyH_ready (rs := [3]) (by kernel_rfl) (by simp) (AllReadyH.cons rfl (fun K hK => ?_) AllReadyH.nil)
      try simp only [List.getElem_toArray, List.getElem_cons_zero, List.getElem_cons_succ]
      go_simp
      obtain ⟨wb, hwl⟩ : ∃ wl, wa.alloc (.cells #[.int .u8 101, .int .u8 102] 5) = wl := ⟨_, rfl⟩
      have hba : Below wa.heap.size wa wb := by rw [← hwl]; exact below_alloc _ _
      have hcl : wb.heap[wa.heap.size]? = some (.cells #[.int .u8 101, .int .u8 102] 5 (0, 0)) := by rw [← hwl]; exact Whole.new wa _ _
      have hlt7 : g7 < wa.heap.size := HM.out.1.lt
      have hwz : w.heap.size ≤ wa.heap.size ∧ 2 ≤ wa.heap.size := ⟨HS.out.2.size, HS.out.1.two⟩
      rw [hwl]
      have HS := Lib.hid (keeps HS.out hba)
      have HM := Lib.hid (HM.out.below hba HM.out.1.lt (fun b h _ => h))
      have HN := Lib.hid (And.intro (HN.out.1.on hba) HN.out.2)
      obtain ⟨gl, hgf⟩ : ∃ g, wa.heap.size = g := ⟨_, rfl⟩
      rw [hgf] at hcl hlt7 hwz ⊢
      have HQ := Lib.hid (And.intro hcl (And.intro hlt7 hwz))
      clear hwl hba hcl hlt7 hwz hgf hHeld
      have hk := HM.out.1
      go_wp2_with fail
      refine hK.out _ _ hk (fun hHeld => ?_)
      clear hK K hHeld
      try simp only [Act.put, List.getElem_toArray, List.getElem_cons_zero, List.getElem_cons_succ, List.setIfInBounds_toArray, List.set_cons_zero, List.set_cons_succ]
      have hHeld := hk
      clear hk
      obtain ⟨wc, hcv, hblk, hkp⟩ := convert_mark (n := 2) (c := 2) HQ.out.1
      refine wpAnyH_ready (rs := [4]) (by kernel_rfl) (by simp) (AllReadyH.cons rfl (fun K hK => ?_) AllReadyH.nil)
      try simp only [List.getElem_toArray, List.getElem_cons_zero, List.getElem_cons_succ]
      go_simp
      have hst : Below w.heap.size wb wc ∧ Below gl wb wc := ⟨mark_below HQ.out.2.2.1 hkp, mark_below (Nat.le_refl _) hkp⟩
      have HT := Lib.hid (txt_marked (l := [101, 102]) (n := 2) hblk (fun x hx => by simp at hx; omega) rfl)
      have hce := mark_cells HQ.out.1 hblk hkp.1
      have HS := Lib.hid (And.intro (HS.out.1.below hst.2 HQ.out.2.2.2) (HS.out.2.trans hst.1))
      have HM := Lib.hid (HM.out.below hst.2 HQ.out.2.1 (fun b _ (h : b < g7) => Nat.lt_trans h HQ.out.2.1))
      have HN := Lib.hid (And.intro (HN.out.1.same hkp.2.1 hce) HN.out.2)
      clear hst hce hcv hblk hkp HQ hHeld
      have hk := HM.out.1
      go_wp2_with fail
      refine hK.out _ _ hk (fun hHeld => ?_)
      clear hK K hHeld
      try simp only [Act.put, List.getElem_toArray, List.getElem_cons_zero, List.getElem_cons_succ, List.setIfInBounds_toArray, List.set_cons_zero, List.set_cons_succ]
      have hHeld := hk
      clear hk
      refine wpAnyH_ready (rs := [5]) (by kernel_rfl) (by simp) (AllReadyH.cons rfl (fun K hK => ?_) AllReadyH.nil)
      try simp only [List.getElem_toArray, List.getElem_cons_zero, List.getElem_cons_succ]
      go_simp
      refine (HG.out.take HM.out.2 HN.out.1 (by omega) HN.out.2 1 ⟨by decide, by decide⟩ HT.out (by omega) HS.out.1).mono ?_
      rintro e we ⟨aT, nT, cT, rfl, hct, ho, hb⟩
      rw [take1] at ho ⊢
      obtain rfl : nT = 2 := ho.1.symm
      have HO := Lib.hid (And.intro ho.any hct)
      have HS := Lib.hid (keeps HS.out hb)
      have HM := Lib.hid (HM.out.below hb HM.out.1.lt (fun b h _ => h))
      clear ho hb hct hHeld HN HT
      have hk := HM.out.1
      go_wp2_with fail
      refine hK.out _ _ hk (fun hHeld => ?_)
      clear hK K hHeld
      try simp only [Act.put, List.getElem_toArray, List.getElem_cons_zero, List.getElem_cons_succ, List.setIfInBounds_toArray, List.set_cons_zero, List.set_cons_succ]
      have hHeld := hk
      clear hk
      refine wpAnyH_take (i := 6) (v := .tuple #[.slice aT 2 cT, .int .i64 0]) rfl (by kernel_rfl) (by kernel_rfl) (by kernel_rfl) (fun _ _ _ h => h) (Or.inl ⟨by rfl, (by intro w hSw; (try dsimp only at hSw); go_simp)⟩) (by assumption) ?_
      try simp only [Act.put, List.getElem_toArray, List.getElem_cons_zero, List.getElem_cons_succ, List.setIfInBounds_toArray, List.set_cons_zero, List.set_cons_succ]
      refine wpAnyH_take (i := 7) (v := .slice aT 2 cT) rfl (by kernel_rfl) (by kernel_rfl) (by kernel_rfl) (fun _ _ _ h => h) (Or.inl ⟨by rfl, (by intro w hSw; (try dsimp only at hSw); go_simp)⟩) (by assumption) ?_
      try simp only [Act.put, List.getElem_toArray, List.getElem_cons_zero, List.getElem_cons_succ, List.setIfInBounds_toArray, List.set_cons_zero, List.set_cons_succ]
      refine wpAnyH_take (i := 8) (v := .int .i64 0) rfl (by kernel_rfl) (by kernel_rfl) (by kernel_rfl) (fun _ _ _ h => h) (Or.inl ⟨by rfl, (by intro w hSw; (try dsimp only at hSw); go_simp)⟩) (by assumption) ?_
      try simp only [Act.put, List.getElem_toArray, List.getElem_cons_zero, List.getElem_cons_succ, List.setIfInBounds_toArray, List.set_cons_zero, List.set_cons_succ]
      refine wpAnyH_take (i := 9) (v := .slice aT 2 cT) rfl (by kernel_rfl) (by kernel_rfl) (by kernel_rfl) (fun _ _ _ h => h) (Or.inl ⟨by rfl, (by intro w hSw; (try dsimp only at hSw); go_simp)⟩) (by assumption) ?_
      try simp only [Act.put, List.getElem_toArray, List.getElem_cons_zero, List.getElem_cons_succ, List.setIfInBounds_toArray, List.set_cons_zero, List.set_cons_succ]
      refine wpAnyH_take (i := 10) (v := .int .i64 0) rfl (by kernel_rfl) (by kernel_rfl) (by kernel_rfl) (fun _ _ _ h => h) (Or.inl ⟨by rfl, (by intro w hSw; (try dsimp only at hSw); go_simp)⟩) (by assumption) ?_
      try simp only [Act.put, List.getElem_toArray, List.getElem_cons_zero, List.getElem_cons_succ, List.setIfInBounds_toArray, List.set_cons_zero, List.set_cons_succ]
      refine wpAnyH_done (by kernel_rfl) ?_ _
      go_wp2
      go_meet
      case rel => exact ⟨aT, cT, rfl, HO.out.2, rfl, HO.out.1, HM.out, HS.out⟩
    · skip
      try simp only [List.getElem_toArray, List.getElem_cons_zero, List.getElem_cons_succ]
      go_simp
      obtain ⟨wa, hwl⟩ : ∃ wl, wd.alloc (.cells #[.int .u8 101, .int .u8 102] 5) = wl := ⟨_, rfl⟩
      have hba : Below wd.heap.size wd wa := by rw [← hwl]; exact below_alloc _ _
      have hcl : wa.heap[wd.heap.size]? = some (.cells #[.int .u8 101, .int .u8 102] 5 (0, 0)) := by rw [← hwl]; exact Whole.new wd _ _
      have hlt7 : g7 < wd.heap.size := HM.out.1.lt
      have hwz : w.heap.size ≤ wd.heap.size ∧ 2 ≤ wd.heap.size := ⟨HS.out.2.size, HS.out.1.two⟩
      rw [hwl]
      have HS := Lib.hid (keeps HS.out hba)
      have HM := Lib.hid (HM.out.below hba HM.out.1.lt (fun b h _ => h))
      skip
      obtain ⟨gl, hgf⟩ : ∃ g, wd.heap.size = g := ⟨_, rfl⟩
      rw [hgf] at hcl hlt7 hwz ⊢
      have HQ := Lib.hid (And.intro hcl (And.intro hlt7 hwz))
      clear hwl hba hcl hlt7 hwz hgf hHeld
      have hk := HM.out.1
      go_wp2_with fail
      refine hK.out _ _ hk (fun hHeld => ?_)
      clear hK K hHeld
      try simp only [Act.put, List.getElem_toArray, List.getElem_cons_zero, List.getElem_cons_succ, List.setIfInBounds_toArray, List.set_cons_zero, List.set_cons_succ]
      have hHeld := hk
      clear hk
      obtain ⟨wc, hcv, hblk, hkp⟩ := convert_mark (n := 2) (c := 2) HQ.out.1
      refine wpAnyH_ready (rs := [2, 4]) (by kernel_rfl) (by simp) (AllReadyH.cons rfl (fun K hK => ?_) (AllReadyH.cons rfl (fun K hK => ?_) AllReadyH.nil))
      · skip
        clear hcv hblk hkp wc
        try simp only [List.getElem_toArray, List.getElem_cons_zero, List.getElem_cons_succ]
        go_simp
        refine (HG.out.none HM.out.2 (by rw [bt6.len]; omega)).mono ?_
        rintro e wb ⟨aN, nN, cN, rfl, ho, hb⟩
        obtain rfl : nN = 2 := by rw [← ho.len, bt6.len]; rfl
        have hr : List.replicate (Mf.made ab6 4).ds.length false = [false, false] := by rw [bt6.len]; rfl
        rw [hr] at ho
        have HN := Lib.hid (And.intro ho.any ho.cap)
        have HS := Lib.hid (keeps HS.out hb)
        have HM := Lib.hid (HM.out.below hb HM.out.1.lt (fun b h _ => h))
        have HQ := Lib.hid (And.intro ((hb.block gl (by have := Array.getElem?_eq_some_iff.1 HQ.out.1; exact this.1)).trans HQ.out.1) HQ.out.2)
        clear ho hb hr hHeld
        have hk := HM.out.1
        go_wp2_with fail
        refine hK.out _ _ hk (fun hHeld => ?_)
        clear hK K hHeld
        try simp only [Act.put, List.getElem_toArray, List.getElem_cons_zero, List.getElem_cons_succ, List.setIfInBounds_toArray, List.set_cons_zero, List.set_cons_succ]
        have hHeld := hk
        clear hk
        obtain ⟨wc, hcv, hblk, hkp⟩ := convert_mark (n := 2) (c := 2) HQ.out.1
        refine wpAnyH_ready (rs := [4]) (by kernel_rfl) (by simp) (AllReadyH.cons rfl (fun K hK => ?_) AllReadyH.nil)
        try simp only [List.getElem_toArray, List.getElem_cons_zero, List.getElem_cons_succ]
        go_simp
        have hst : Below w.heap.size wb wc ∧ Below gl wb wc := ⟨mark_below HQ.out.2.2.1 hkp, mark_below (Nat.le_refl _) hkp⟩
        have HT := Lib.hid (txt_marked (l := [101, 102]) (n := 2) hblk (fun x hx => by simp at hx; omega) rfl)
        have hce := mark_cells HQ.out.1 hblk hkp.1
        have HS := Lib.hid (And.intro (HS.out.1.below hst.2 HQ.out.2.2.2) (HS.out.2.trans hst.1))
        have HM := Lib.hid (HM.out.below hst.2 HQ.out.2.1 (fun b _ (h : b < g7) => Nat.lt_trans h HQ.out.2.1))
        have HN := Lib.hid (And.intro (HN.out.1.same hkp.2.1 hce) HN.out.2)
        clear hst hce hcv hblk hkp HQ hHeld
        have hk := HM.out.1
        go_wp2_with fail
        refine hK.out _ _ hk (fun hHeld => ?_)
        clear hK K hHeld
        try simp only [Act.put, List.getElem_toArray, List.getElem_cons_zero, List.getElem_cons_succ, List.setIfInBounds_toArray, List.set_cons_zero, List.set_cons_succ]
        have hHeld := hk
        clear hk
        refine wpAnyH_ready (rs := [5]) (by kernel_rfl) (by simp) (AllReadyH.cons rfl (fun K hK => ?_) AllReadyH.nil)
        try simp only [List.getElem_toArray, List.getElem_cons_zero, List.getElem_cons_succ]
        go_simp
        refine (HG.out.take HM.out.2 HN.out.1 (by omega) HN.out.2 1 ⟨by decide, by decide⟩ HT.out (by omega) HS.out.1).mono ?_
        rintro e we ⟨aT, nT, cT, rfl, hct, ho, hb⟩
        rw [take1] at ho ⊢
        obtain rfl : nT = 2 := ho.1.symm
        have HO := Lib.hid (And.intro ho.any hct)
        have HS := Lib.hid (keeps HS.out hb)
        have HM := Lib.hid (HM.out.below hb HM.out.1.lt (fun b h _ => h))
        clear ho hb hct hHeld HN HT
        have hk := HM.out.1
        go_wp2_with fail
        refine hK.out _ _ hk (fun hHeld => ?_)
        clear hK K hHeld
        try simp only [Act.put, List.getElem_toArray, List.getElem_cons_zero, List.getElem_cons_succ, List.setIfInBounds_toArray, List.set_cons_zero, List.set_cons_succ]
        have hHeld := hk
        clear hk
        refine wpAnyH_take (i := 6) (v := .tuple #[.slice aT 2 cT, .int .i64 0]) rfl (by kernel_rfl) (by kernel_rfl) (by kernel_rfl) (fun _ _ _ h => h) (Or.inl ⟨by rfl, (by intro w hSw; (try dsimp only at hSw); go_simp)⟩) (by assumption) ?_
        try simp only [Act.put, List.getElem_toArray, List.getElem_cons_zero, List.getElem_cons_succ, List.setIfInBounds_toArray, List.set_cons_zero, List.set_cons_succ]
        refine wpAnyH_take (i := 7) (v := .slice aT 2 cT) rfl (by kernel_rfl) (by kernel_rfl) (by kernel_rfl) (fun _ _ _ h => h) (Or.inl ⟨by rfl, (by intro w hSw; (try dsimp only at hSw); go_simp)⟩) (by assumption) ?_
        try simp only [Act.put, List.getElem_toArray, List.getElem_cons_zero, List.getElem_cons_succ, List.setIfInBounds_toArray, List.set_cons_zero, List.set_cons_succ]
        refine wpAnyH_take (i := 8) (v := .int .i64 0) rfl (by kernel_rfl) (by kernel_rfl) (by kernel_rfl) (fun _ _ _ h => h) (Or.inl ⟨by rfl, (by intro w hSw; (try dsimp only at hSw); go_simp)⟩) (by assumption) ?_
        try simp only [Act.put, List.getElem_toArray, List.getElem_cons_zero, List.getElem_cons_succ, List.setIfInBounds_toArray, List.set_cons_zero, List.set_cons_succ]
        refine wpAnyH_take (i := 9) (v := .slice aT 2 cT) rfl (by kernel_rfl) (by kernel_rfl) (by kernel_rfl) (fun _ _ _ h => h) (Or.inl ⟨by rfl, (by intro w hSw; (try dsimp only at hSw); go_simp)⟩) (by assumption) ?_
        try simp only [Act.put, List.getElem_toArray, List.getElem_cons_zero, List.getElem_cons_succ, List.setIfInBounds_toArray, List.set_cons_zero, List.set_cons_succ]
        refine wpAnyH_take (i := 10) (v := .int .i64 0) rfl (by kernel_rfl) (by kernel_rfl) (by kernel_rfl) (fun _ _ _ h => h) (Or.inl ⟨by rfl, (by intro w hSw; (try dsimp only at hSw); go_simp)⟩) (by assumption) ?_
        try simp only [Act.put, List.getElem_toArray, List.getElem_cons_zero, List.getElem_cons_succ, List.setIfInBounds_toArray, List.set_cons_zero, List.set_cons_succ]
        refine wpAnyH_done (by kernel_rfl) ?_ _
        go_wp2
        go_meet
        case rel => exact ⟨aT, cT, rfl, HO.out.2, rfl, HO.out.1, HM.out, HS.out⟩
      · skip
        try simp only [List.getElem_toArray, List.getElem_cons_zero, List.getElem_cons_succ]
        go_simp
        have hst : Below w.heap.size wa wc ∧ Below gl wa wc := ⟨mark_below HQ.out.2.2.1 hkp, mark_below (Nat.le_refl _) hkp⟩
        have HT := Lib.hid (txt_marked (l := [101, 102]) (n := 2) hblk (fun x hx => by simp at hx; omega) rfl)
        have hce := mark_cells HQ.out.1 hblk hkp.1
        have HS := Lib.hid (And.intro (HS.out.1.below hst.2 HQ.out.2.2.2) (HS.out.2.trans hst.1))
        have HM := Lib.hid (HM.out.below hst.2 HQ.out.2.1 (fun b _ (h : b < g7) => Nat.lt_trans h HQ.out.2.1))
        skip
        clear hst hce hcv hblk hkp HQ hHeld
        have hk := HM.out.1
        go_wp2_with fail
        refine hK.out _ _ hk (fun hHeld => ?_)
        clear hK K hHeld
        try simp only [Act.put, List.getElem_toArray, List.getElem_cons_zero, List.getElem_cons_succ, List.setIfInBounds_toArray, List.set_cons_zero, List.set_cons_succ]
        have hHeld := hk
        clear hk
        refine wpAnyH_ready (rs := [2]) (by kernel_rfl) (by simp) (AllReadyH.cons rfl (fun K hK => ?_) AllReadyH.nil)
        try simp only [List.getElem_toArray, List.getElem_cons_zero, List.getElem_cons_succ]
        go_simp
        refine (HG.out.none HM.out.2 (by rw [bt6.len]; omega)).mono ?_
        rintro e wb ⟨aN, nN, cN, rfl, ho, hb⟩
        obtain rfl : nN = 2 := by rw [← ho.len, bt6.len]; rfl
        have hr : List.replicate (Mf.made ab6 4).ds.length false = [false, false] := by rw [bt6.len]; rfl
        rw [hr] at ho
        have HN := Lib.hid (And.intro ho.any ho.cap)
        have HS := Lib.hid (keeps HS.out hb)
        have HM := Lib.hid (HM.out.below hb HM.out.1.lt (fun b h _ => h))
        have HT := Lib.hid (HT.out.old.below hb (fun _ _ h => h))
        clear ho hb hr hHeld
        have hk := HM.out.1
        go_wp2_with fail
        refine hK.out _ _ hk (fun hHeld => ?_)
        clear hK K hHeld
        try simp only [Act.put, List.getElem_toArray, List.getElem_cons_zero, List.getElem_cons_succ, List.setIfInBounds_toArray, List.set_cons_zero, List.set_cons_succ]
        have hHeld := hk
        clear hk
        refine wpAnyH_ready (rs := [5]) (by kernel_rfl) (by simp) (AllReadyH.cons rfl (fun K hK => ?_) AllReadyH.nil)
        try simp only [List.getElem_toArray, List.getElem_cons_zero, List.getElem_cons_succ]
        go_simp
        refine (HG.out.take HM.out.2 HN.out.1 (by omega) HN.out.2 1 ⟨by decide, by decide⟩ HT.out (by omega) HS.out.1).mono ?_
        rintro e we ⟨aT, nT, cT, rfl, hct, ho, hb⟩
        rw [take1] at ho ⊢
        obtain rfl : nT = 2 := ho.1.symm
        have HO := Lib.hid (And.intro ho.any hct)
        have HS := Lib.hid (keeps HS.out hb)
        have HM := Lib.hid (HM.out.below hb HM.out.1.lt (fun b h _ => h))
        clear ho hb hct hHeld HN HT
        have hk := HM.out.1
        go_wp2_with fail
        refine hK.out _ _ hk (fun hHeld => ?_)
        clear hK K hHeld
        try simp only [Act.put, List.getElem_toArray, List.getElem_cons_zero, List.getElem_cons_succ, List.setIfInBounds_toArray, List.set_cons_zero, List.set_cons_succ]
        have hHeld := hk
        clear hk
        refine wpAnyH_take (i := 6) (v := .tuple #[.slice aT 2 cT, .int .i64 0]) rfl (by kernel_rfl) (by kernel_rfl) (by kernel_rfl) (fun _ _ _ h => h) (Or.inl ⟨by rfl, (by intro w hSw; (try dsimp only at hSw); go_simp)⟩) (by assumption) ?_
        try simp only [Act.put, List.getElem_toArray, List.getElem_cons_zero, List.getElem_cons_succ, List.setIfInBounds_toArray, List.set_cons_zero, List.set_cons_succ]
        refine wpAnyH_take (i := 7) (v := .slice aT 2 cT) rfl (by kernel_rfl) (by kernel_rfl) (by kernel_rfl) (fun _ _ _ h => h) (Or.inl ⟨by rfl, (by intro w hSw; (try dsimp only at hSw); go_simp)⟩) (by assumption) ?_
        try simp only [Act.put, List.getElem_toArray, List.getElem_cons_zero, List.getElem_cons_succ, List.setIfInBounds_toArray, List.set_cons_zero, List.set_cons_succ]
        refine wpAnyH_take (i := 8) (v := .int .i64 0) rfl (by kernel_rfl) (by kernel_rfl) (by kernel_rfl) (fun _ _ _ h => h) (Or.inl ⟨by rfl, (by intro w hSw; (try dsimp only at hSw); go_simp)⟩) (by assumption) ?_
        try simp only [Act.put, List.getElem_toArray, List.getElem_cons_zero, List.getElem_cons_succ, List.setIfInBounds_toArray, List.set_cons_zero, List.set_cons_succ]
        refine wpAnyH_take (i := 9) (v := .slice aT 2 cT) rfl (by kernel_rfl) (by kernel_rfl) (by kernel_rfl) (fun _ _ _ h => h) (Or.inl ⟨by rfl, (by intro w hSw; (try dsimp only at hSw); go_simp)⟩) (by assumption) ?_
        try simp only [Act.put, List.getElem_toArray, List.getElem_cons_zero, List.getElem_cons_succ, List.setIfInBounds_toArray, List.set_cons_zero, List.set_cons_succ]
        refine wpAnyH_take (i := 10) (v := .int .i64 0) rfl (by kernel_rfl) (by kernel_rfl) (by kernel_rfl) (fun _ _ _ h => h) (Or.inl ⟨by rfl, (by intro w hSw; (try dsimp only at hSw); go_simp)⟩) (by assumption) ?_
        try simp only [Act.put, List.getElem_toArray, List.getElem_cons_zero, List.getElem_cons_succ, List.setIfInBounds_toArray, List.set_cons_zero, List.set_cons_succ]
        refine wpAnyH_done (by kernel_rfl) ?_ _
        go_wp2
        go_meet
        case rel => exact ⟨aT, cT, rfl, HO.out.2, rfl, HO.out.1, HM.out, HS.out⟩
  obtain ⟨a9, c9, rfl, hc9, rfl, hr9, hm9, hs9⟩ := hcut
  have HO := Lib.hid (And.intro hr9 hc9)
  have HM := Lib.hid hm9
  have HS := Lib.hid hs9
  clear hr9 hc9 hm9 hs9
  have kc := fun (w : World) (C : Array Value) (n c : Nat) => Lib.run_convert_bytes_const (P := Tryd.prog) w 35 5 C n c Tryd.underlying35 Tryd.underlying5
  go_wp2_with (first | ((with_reducible show wpList _ _ _ ((⟨some 46, Op.load 34 (.tmp 7), _, _, _, _⟩ : Oper) :: _) _ _); refine wpList_load_rowG (by rfl) _ (.tmp 7) rfl g7 rfl 34 P (0, 0) _ HM.out.1 Tryd.underlying34 rfl (by rw [hP]; exact info35) ?_) | fail)
  clear kc
  obtain ⟨wa, hwa⟩ : ∃ wa, wc.alloc (.cells #[.int .u8 101, .int .u8 102] 5 (2, 3)) = wa := ⟨_, rfl⟩
  have hba : Below wc.heap.size wc wa := by rw [← hwa]; exact below_alloc _ _
  have hta : Txt wa Any (some ⟨wc.heap.size, 0, none⟩) 2 2 [101, 102] := by rw [← hwa]; exact txt_new (l := [101, 102]) Any trivial (fun x hx => by simp at hx; omega) rfl
  rw [hwa]
  have HS := Lib.hid (keeps HS.out hba)
  have HM := Lib.hid (HM.out.below hba HM.out.1.lt (fun b h _ => h))
  have HO := Lib.hid (And.intro (HO.out.1.on hba) HO.out.2)
  clear hwa hba
  refine (HG.out.take HM.out.2 HO.out.1 (by omega) HO.out.2 0 ⟨by decide, by decide⟩ hta (by omega) HS.out.1).mono ?_
  rintro e wb ⟨aT, nT, cT, rfl, hct, ho, hb⟩
  rw [take0]
  have HS := Lib.hid (keeps HS.out hb)
  have HM := Lib.hid (HM.out.below hb HM.out.1.lt (fun b h _ => h))
  have HO := Lib.hid (And.intro (HO.out.1.on hb) HO.out.2)
  clear hta hct ho hb
  have kc := fun (w : World) (C : Array Value) (n c : Nat) => Lib.run_convert_bytes_const (P := Tryd.prog) w 35 5 C n c Tryd.underlying35 Tryd.underlying5
  go_wp2_with (first | ((with_reducible show wpList _ _ _ ((⟨some 53, Op.load 34 (.tmp 7), _, _, _, _⟩ : Oper) :: _) _ _); refine wpList_load_rowG (by rfl) _ (.tmp 7) rfl g7 rfl 34 P (0, 0) _ HM.out.1 Tryd.underlying34 rfl (by rw [hP]; exact info35) ?_) | fail)
  clear kc
  obtain ⟨wd, hwd⟩ : ∃ wd, wb.alloc (.cells #[.int .u8 97, .int .u8 98, .int .u8 99, .int .u8 100] 5 (4, 5)) = wd := ⟨_, rfl⟩
  have hbd : Below wb.heap.size wb wd := by rw [← hwd]; exact below_alloc _ _
  have htd : Txt wd Any (some ⟨wb.heap.size, 0, none⟩) 4 4 [97, 98, 99, 100] := by rw [← hwd]; exact txt_new (l := [97, 98, 99, 100]) Any trivial (fun x hx => by simp at hx; omega) rfl
  rw [hwd]
  have HS := Lib.hid (keeps HS.out hbd)
  have HM := Lib.hid (HM.out.below hbd HM.out.1.lt (fun b h _ => h))
  have HO := Lib.hid (And.intro (HO.out.1.on hbd) HO.out.2)
  clear hwd hbd
  refine (HG.out.find HM.out.2 (by rw [bt6.len]; omega) htd (by omega) HS.out.1).mono ?_
  rintro e we ⟨aF, nF, cF, rfl, ho, hb⟩
  rw [find4] at ho
  obtain rfl : nF = 2 := ho.len.symm
  have HS := Lib.hid (keeps HS.out hb)
  have HO := Lib.hid (And.intro (HO.out.1.on hb) ho.any)
  clear htd hb ho HM
  obtain ⟨ga, oa, rfl, _, _, ca⟩ := be_cells HO.out.1 (by omega)
  obtain ⟨gb, ob, rfl, _, _, cb⟩ := be_cells HO.out.2 (by omega)
  have a0 : we.cell? ⟨ga, oa + 0, none⟩ = some (.bool false) := ca 0 (by omega)
  have a1 : we.cell? ⟨ga, oa + 1, none⟩ = some (.bool true) := ca 1 (by omega)
  have b0 : we.cell? ⟨gb, ob + 0, none⟩ = some (.bool true) := cb 0 (by omega)
  have b1 : we.cell? ⟨gb, ob + 1, none⟩ = some (.bool false) := cb 1 (by omega)
  rw [Nat.add_zero] at a0 b0
  clear ca cb
  go_wp2_with fail
  clear a0 a1 b0 b1
  refine (HG.out.missing HO.out.1 (by omega)).mono ?_
  rintro e wf ⟨rfl, hb⟩
  rw [show Tr.missing [false, true] = 1 by decide]
  have HS := Lib.hid (keeps HS.out hb)
  have HO := Lib.hid (HO.out.1.on hb)
  clear hb
  go_wp2_with fail
  refine (HG.out.done HO.out (by omega)).mono ?_
  rintro e wg ⟨rfl, hb⟩
  rw [show Tr.done [false, true] = false by decide]
  have HS := Lib.hid (keeps HS.out hb)
  clear hb HO
  go_wp2_with fail
  obtain ⟨wh, hwh⟩ : ∃ wh, wg.alloc (.cells #[.bool true] 4) = wh := ⟨_, rfl⟩
  have hbh : Below wg.heap.size wg wh := by rw [← hwh]; exact below_alloc _ _
  have hr : BE.Row wh Any (some ⟨wg.heap.size, 0, none⟩) 1 [true] := by rw [← hwh]; exact be_whole (l := [true]) (Whole.new _ _ _) trivial
  rw [hwh]
  have HS := Lib.hid (keeps HS.out hbh)
  clear hwh hbh
  refine (HG.out.done hr (by omega)).mono ?_
  rintro e wi ⟨rfl, hb⟩
  rw [show Tr.done [true] = true by decide]
  have HS := Lib.hid (keeps HS.out hb)
  clear hb hr
  go_wp2_with fail
  refine (HG.out.done (Elem.Row.nil (E := BE) wi Any none) (by omega)).mono ?_
  rintro e wj ⟨rfl, hb⟩
  rw [show Tr.done [] = false by decide]
  have HS := Lib.hid (keeps HS.out hb)
  clear hb
  go_wp2
  go_ret
  exact ⟨rfl, HS.out.2⟩
end Go.Proofs.YtiogfkhmigbgpaaDoor
