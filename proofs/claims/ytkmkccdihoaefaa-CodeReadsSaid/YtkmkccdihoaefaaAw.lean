/-
  The walk of the statements' own head, and the first of them: CodeNames.
-/
import Derived.Test.YtkmkccdihoaefaaPd
import Derived.Lib.SlBytesConst
namespace Go.Proofs.Ytkmkccdihoaefaa
open Go.RowKit

/-! Small numbers' bytes -/
theorem encU_small {u : Nat} (h : u < 128) : Cd.encU u = [(u : Int)] := by
  unfold Cd.encU
  rw [show u / 128 = 0 by omega, Cd.tops_zero, show u % 128 = u by omega]; rfl
theorem num_zero : Cd.num 0 = [0] := encU_small (u := 0) (by omega)
theorem num_neg : Cd.num (-1) = [1] := encU_small (u := 1) (by omega)
theorem num_two : Cd.num 2 = [4] := encU_small (u := 4) (by omega)
theorem num_64 : Cd.num 64 = [129, 0] := by
  show Cd.encU 128 = _
  unfold Cd.encU
  rw [show 128 / 128 = 1 by rfl, Cd.tops_pos (by omega), show 1 / 128 = 0 by rfl, Cd.tops_zero]; rfl

/-- A row that was built holds its parts. -/
theorem prts_whole {w : World} {b : Nat} {qs : List (Prt × Value)} {T : Nat → Prop} (h : Whole w b 28 (flat qs).toArray) (hq : ∀ q ∈ qs, q.1.Ok ∧ ∃ a n c, q.2 = .slice a n c ∧ Txt w T a n c q.1.b) :
    Prts w (fun b' => b' = b ∨ T b') (some ⟨b, 0, none⟩) qs.length (qs.map (·.1)) := by
  refine ⟨by simp, ?_, ?_⟩
  · intro p hp
    obtain ⟨q, hq', rfl⟩ := List.mem_map.1 hp
    exact (hq q hq').1
  · right
    refine ⟨b, 0, rfl, Or.inl rfl, h.lt, fun i p hp => ?_⟩
    obtain ⟨q, hq', rfl⟩ : ∃ q, qs[i]? = some q ∧ q.1 = p := by
      rw [List.getElem?_map] at hp
      cases hqi : qs[i]? with
      | none => rw [hqi] at hp; cases hp
      | some q => rw [hqi] at hp; injection hp with hp; exact ⟨q, rfl, hp⟩
    have hmem : q ∈ qs := List.mem_of_getElem? hq'
    obtain ⟨hok, a1, n1, c1, e1, t1⟩ := hq q hmem
    have hc : ∀ j, j < 37 → w.cell? ⟨b, 0 + i * 37 + j, none⟩ = (cellsOf q.1 q.2)[j]? := by
      intro j hj
      rw [Nat.zero_add, h.cell, List.getElem?_toArray, flat_get (fun q hq'' => (hq q hq'').1) i j q hq' hj]
    refine ⟨hc 0 (by omega), hc 1 (by omega), hc 2 (by omega), hc 3 (by omega), ⟨a1, n1, c1, (hc 4 (by omega)).trans (by rw [e1]; rfl), t1.weak (fun b _ hS => Or.inr hS)⟩, ?_⟩
    intro j u hu
    have hj : j < 32 := by
      have := (List.getElem?_eq_some_iff.1 hu).1
      rw [nums_len, hok.h] at this; exact this
    have := hc (5 + j) (by omega)
    rw [Nat.add_assoc, this, Nat.add_comm 5 j]
    simpa [cellsOf, pcells] using hu

theorem wpList_buildQ {ops : Array Oper} {rest : List Oper} {o : Oper} {a : Act} {w : World} {Q : Exit → Act → World → Prop} (hg : o.guard = none) (parts : Array (Nat × Operand)) (qs : List (Prt × Value)) (ho : o.op = .buildSlice 23 qs.length parts)
    (ix : Nat → Nat) (hparts : parts.toList = (List.range qs.length).map fun i => (i, Operand.tmp (ix i))) (hok : ∀ q ∈ qs, q.1.Ok) (hpos : 0 < qs.length) (hsm : qs.length ≤ 20)
    (hev : ∀ i (h : i < qs.length), a.eval (.tmp (ix i)) = .agg (cellsOf qs[i].1 qs[i].2).toArray)
    (h : wpList Try.prog ops Q rest (a.put o.dst (.slice (some ⟨w.heap.size, 0, none⟩) qs.length qs.length)) (w.alloc (.cells (flat qs).toArray 28))) : wpList Try.prog ops Q (o :: rest) a w := by
  have hl : (qs.map fun q => Value.agg (cellsOf q.1 q.2).toArray).length = qs.length := by simp
  refine Go.Great.wpList_buildRows hg 23 28 parts 37 (qs.map fun q => Value.agg (cellsOf q.1 q.2).toArray) (by rw [hl]; exact ho) ix _ rfl _ rfl Try.underlying23 info37 (by kernel_rfl) (by omega) (by rw [hl]; exact hpos)
    (by rw [hl]; have : (2 : Nat) ^ 24 = 16777216 := by decide
        omega) (by rw [hl]; exact hparts) ?_ ?_ ?_
  · intro v hv
    obtain ⟨q, hq, rfl⟩ := List.mem_map.1 hv
    simpa [Value.cells] using cellsOf_len (hok q hq) q.2
  · intro i hi
    rw [hev i (by rw [hl] at hi; exact hi), List.getElem_map]
  · have e : ((qs.map fun q => Value.agg (cellsOf q.1 q.2).toArray).flatMap fun v => v.cells.toList) = flat qs := by
      unfold flat
      rw [List.flatMap_map]
      rfl
    rw [e, hl]
    exact h

theorem convert_txt {w : World} {S : Nat → Prop} {a : Option Addr} {n c : Nat} {l : List Int} (h : Txt w S a n c l) : (convert 25 9 (.slice a n c)).run Try.prog w = .ok (.string (strOfNums l)) w := by
  rcases h.2.2.2 with h0 | ⟨b, off, rfl, _, _, hc⟩
  · subst h0
    have hn : n = 0 := h.1.symm
    subst hn
    cases a with
    | none => exact run_convert_bytes_nil w 25 5 Try.underlying25 Try.underlying5 0 c 9 Try.underlying9
    | some ad =>
      rw [run_convert_bytes_string w 25 9 5 _ 0 c Try.underlying25 Try.underlying5 Try.underlying9]
      rw [run_bytesToString w ad 0 c [] rfl]
      rfl
  · exact run_convert_bytes_arg w 25 5 Try.underlying25 Try.underlying5 b off n c l h.1 hc 9 Try.underlying9

theorem txt_lit {w : World} {b : Nat} {t : TypeId} {l : List Int} (h : Whole w b t (nums l).toArray) (hb : Cd.Byt l) : Txt w (· = b) (some ⟨b, 0, none⟩) l.length l.length l := by
  refine ⟨rfl, Nat.le_refl _, hb, Or.inr ⟨b, 0, rfl, rfl, h.lt, fun k hk => ?_⟩⟩
  rw [Nat.zero_add, h.cell, List.getElem?_toArray, nums_get l k hk]
theorem txt_new {w : World} {t : TypeId} {fr : Nat × Nat} {l : List Int} (hb : Cd.Byt l) : Txt (w.alloc (.cells (nums l).toArray t fr)) (· = w.heap.size) (some ⟨w.heap.size, 0, none⟩) l.length l.length l := by
  refine ⟨rfl, Nat.le_refl _, hb, Or.inr ⟨w.heap.size, 0, rfl, rfl, by simp, fun k hk => ?_⟩⟩
  rw [Nat.zero_add, cell_of_row _ _ k (nums l).toArray t fr (heap_alloc_new w _), List.getElem?_toArray, nums_get l k hk]
theorem txt_nilv (w : World) (T : Nat → Prop) : ∃ a n c, nilv = .slice a n c ∧ Txt w T a n c [] := ⟨none, 0, 0, rfl, Txt.nil _ _ _ _⟩
/-- The head's four parts. -/
def hp1 : Prt := ⟨1, 0, 0, 0, [], zero32⟩
def hp2 : Prt := ⟨1, -1, 0, 0, [], zero32⟩
def hp3 : Prt := ⟨1, 64, 0, 0, [], zero32⟩
def hp4 : Prt := ⟨2, 0, 0, 0, [97, 98], zero32⟩
def ask5 : Prt := ⟨1, 0, 0, 5, [], zero32⟩
theorem head_written : written [hp1, hp2, hp3, hp4] = [0, 1, 129, 0, 4, 97, 98] := by
  unfold written
  simp only [List.flatMap_cons, List.flatMap_nil]
  show Cd.num 0 ++ (Cd.num (-1) ++ (Cd.num 64 ++ ((Cd.num (2 : Int) ++ [97, 98]) ++ []))) = _
  rw [num_zero, num_neg, num_64, num_two]; rfl
theorem head_read1 : reads [ask5] [0] = ([mkN 0], [], false) := by rfl
theorem head_read2 : reads [ask5] [128, 1] = ([mkN 0], [], true) := by rfl
theorem head_read3 : reads [ask5] [0, 0] = ([mkN 0], [0], false) := by rfl

/-- The head's row of parts. -/
theorem head_prts (w : World) (h1 : hp1.Ok) (h2 : hp2.Ok) (h3 : hp3.Ok) (h4 : hp4.Ok) :
    Prts ((w.alloc (.cells #[.int .u8 97, .int .u8 98] 5 (2, 3))).alloc (.cells (flat [(hp1, nilv), (hp2, nilv), (hp3, nilv), (hp4, .slice (some ⟨w.heap.size, 0, none⟩) 2 2)]).toArray 28)) (fun b => b = w.heap.size + 1 ∨ b = w.heap.size)
      (some ⟨w.heap.size + 1, 0, none⟩) 4 [hp1, hp2, hp3, hp4] := by
  have hn := Whole.new (w.alloc (.cells #[.int .u8 97, .int .u8 98] 5 (2, 3))) 28 (flat [(hp1, nilv), (hp2, nilv), (hp3, nilv), (hp4, .slice (some ⟨w.heap.size, 0, none⟩) 2 2)]).toArray
  rw [size_alloc] at hn
  have ht : Txt (w.alloc (.cells #[.int .u8 97, .int .u8 98] 5 (2, 3))) (· = w.heap.size) (some ⟨w.heap.size, 0, none⟩) 2 2 [97, 98] := txt_new (l := [97, 98]) (Cd.byt_cons (by omega) (by omega) (Cd.byt_cons (by omega) (by omega) Cd.byt_nil))
  refine prts_whole (T := (· = w.heap.size)) hn ?_
  intro q hq
  simp only [List.mem_cons, List.not_mem_nil, or_false] at hq
  rcases hq with rfl | rfl | rfl | rfl
  · exact ⟨h1, txt_nilv _ _⟩
  · exact ⟨h2, txt_nilv _ _⟩
  · exact ⟨h3, txt_nilv _ _⟩
  · exact ⟨h4, _, _, _, rfl, ht.keep (by simp) (fun b hb _ => Below.heap_alloc _ _ _ hb)⟩
/-- A row of one part, without bytes. -/
theorem one_prts {w : World} {k n l m : Int} {h : List Int} {N : Nat} (hN : w.heap.size = N) (hok : (Prt.mk k n l m [] h).Ok) :
    Prts (w.alloc (.cells (pcells k n l m nilv h).toArray 28)) (fun b => b = N ∨ b = N) (some ⟨N, 0, none⟩) 1 [⟨k, n, l, m, [], h⟩] := by
  subst hN
  have hn := Whole.new w 28 (flat [(⟨k, n, l, m, [], h⟩, nilv)]).toArray
  have := prts_whole (T := (· = w.heap.size)) hn (by
    intro q hq
    simp only [List.mem_cons, List.not_mem_nil, or_false] at hq
    subst hq
    exact ⟨hok, txt_nilv _ _⟩)
  have e : flat [((⟨k, n, l, m, [], h⟩ : Prt), nilv)] = pcells k n l m nilv h := by simp [flat, cellsOf]
  rw [e] at this
  exact this
theorem few_of {ps : List Prt} (h : ps.length ≤ 20) (hb : ∀ p ∈ ps, p.b.length ≤ 300) : Few ps := ⟨h, hb⟩

set_option maxHeartbeats 4000000 in
set_option maxRecDepth 100000 in
theorem awake_any (w : World) :
    Calls Try.prog 11 #[] w fun e w' => e = .returned (.bool true) ∧ Below w.heap.size w w' := by
  have HOKS : Hid (hp1.Ok ∧ hp2.Ok ∧ hp3.Ok ∧ hp4.Ok ∧ ask5.Ok) := Lib.hid ⟨ok_mk (in_small (by omega) (by omega)) (in_small (by omega) (by omega)) (in_small (by omega) (by omega)) (in_small (by omega) (by omega)) zero_len byt_zero, ok_mk (in_small (by omega) (by omega)) (in_small (by omega) (by omega)) (in_small (by omega) (by omega)) (in_small (by omega) (by omega)) zero_len byt_zero, ok_mk (in_small (by omega) (by omega)) (in_small (by omega) (by omega)) (in_small (by omega) (by omega)) (in_small (by omega) (by omega)) zero_len byt_zero, ok_mk (in_small (by omega) (by omega)) (in_small (by omega) (by omega)) (in_small (by omega) (by omega)) (in_small (by omega) (by omega)) zero_len byt_zero, ok_mk (in_small (by omega) (by omega)) (in_small (by omega) (by omega)) (in_small (by omega) (by omega)) (in_small (by omega) (by omega)) zero_len byt_zero⟩
  have hcs := fun (w : World) (C : Array Value) (n c : Nat) => Lib.run_convert_bytes_const (P := Try.prog) w 25 5 C n c Try.underlying25 Try.underlying5
  go_enter Try.func11, Try.ntmps11
  go_wp2_with (first
    | ((with_reducible show wpList _ _ _ ((⟨_, Op.build 28 _, _, _, _, _⟩ : Oper) :: _) _ _); first | refine wpList_part rfl _ rfl [(0, .int .i64 _)] rfl _ (built_k _) ?_ | refine wpList_part rfl _ rfl [(0, .int .i64 _), (1, .int .i64 _)] rfl _ (built_kn _ _) ?_ | refine wpList_part rfl _ rfl [(0, .int .i64 _), (3, .int .i64 _)] rfl _ (built_km _ _) ?_ | refine wpList_part rfl _ rfl [(0, .int .i64 _), (4, .slice _ _ _)] rfl _ (built_kb _ _ _ _) ?_)
    | ((with_reducible show wpList _ _ _ ((⟨_, Op.buildSlice 23 _ _, _, _, _, _⟩ : Oper) :: _) _ _); refine wpList_buildQ rfl _ [(hp1, nilv), (hp2, nilv), (hp3, nilv), (hp4, .slice (some ⟨w.heap.size, 0, none⟩) 2 2)] rfl (fun i => [8, 9, 10, 13].getD i 0) rfl ?b1 (by simp) (by simp) ?b2 ?_))
  case b1 =>
    intro q hq
    simp only [List.mem_cons, List.not_mem_nil, or_false] at hq
    rcases hq with rfl | rfl | rfl | rfl
    · exact HOKS.out.1
    · exact HOKS.out.2.1
    · exact HOKS.out.2.2.1
    · exact HOKS.out.2.2.2.1
  case b2 =>
    intro i hi
    match i, hi with
    | 0, _ => rfl
    | 1, _ => rfl
    | 2, _ => rfl
    | 3, _ => rfl
  have HP4 := Lib.hid (head_prts w HOKS.out.1 HOKS.out.2.1 HOKS.out.2.2.1 HOKS.out.2.2.2.1)
  have HB0 : Hid (Below w.heap.size w ((w.alloc (.cells #[.int .u8 97, .int .u8 98] 5 (2, 3))).alloc (.cells (flat [(hp1, nilv), (hp2, nilv), (hp3, nilv), (hp4, .slice (some ⟨w.heap.size, 0, none⟩) 2 2)]).toArray 28))) := Lib.hid ((below_alloc w _).alloc (by simp) _)
  generalize (w.alloc (.cells #[.int .u8 97, .int .u8 98] 5 (2, 3))).alloc (.cells (flat [(hp1, nilv), (hp2, nilv), (hp3, nilv), (hp4, .slice (some ⟨w.heap.size, 0, none⟩) 2 2)]).toArray 28) = w0 at *
  refine (written_any HP4.out (few_of (by simp) (by intro p hp; simp only [List.mem_cons, List.not_mem_nil, or_false] at hp; rcases hp with rfl | rfl | rfl | rfl <;> simp [hp1, hp2, hp3, hp4]))).mono ?_
  rintro e w1 ⟨v1, rfl, hown1, hb1⟩
  rw [head_written] at hown1
  have hby : Cd.Byt [0, 1, 129, 0, 4, 97, 98] := by intro x hx; simp only [List.mem_cons, List.not_mem_nil, or_false] at hx; omega
  obtain ⟨a1, c1, rfl, htx1⟩ := Txt.own hown1 hby
  have HB1 : Hid (Below w.heap.size w w1) := Lib.hid (HB0.out.trans (hb1.mono HB0.out.size))
  have HT1 : Hid (Txt w1 (· < w1.heap.size) a1 7 c1 [0, 1, 129, 0, 4, 97, 98]) := Lib.hid htx1.old
  have hc1 : 7 ≤ c1 := htx1.2.1
  clear hown1 hb1 htx1 HP4 HB0 hby
  have hi1 : (1 : Int) ≤ (c1 : Int) := by omega
  go_wp2_with (first
    | ((with_reducible show wpList _ _ _ ((⟨_, Op.build 28 _, _, _, _, _⟩ : Oper) :: _) _ _); refine wpList_part rfl _ rfl [(0, .int .i64 _), (3, .int .i64 _)] rfl _ (built_km _ _) ?_)
    | ((with_reducible show wpList _ _ _ ((⟨_, Op.buildSlice 23 _ _, _, _, _, _⟩ : Oper) :: _) _ _); refine wpList_build1 rfl 22 rfl _ (psize zero_len) rfl ?_))
  rw [show (min (1 : Int) 7).toNat = 1 by decide]
  have HTA : Hid (Txt (w1.alloc (.cells (pcells 1 0 0 5 nilv zero32).toArray 28)) (· < w1.heap.size) a1 1 c1 [0]) := Lib.hid ((HT1.out.take 1 (by omega)).keep (by simp) (fun b hb _ => Below.heap_alloc _ _ _ hb))
  refine (read_any HTA.out (one_prts (w := w1) rfl HOKS.out.2.2.2.2) (by omega) (by omega)).mono ?_
  rintro e w2 ⟨q2, v2, rfl, ho2, hm2, hbl2⟩
  rw [show (reads [(⟨1, 0, 0, 5, [], zero32⟩ : Prt)] [0]) = _ from head_read1] at hm2
  rw [show (reads [(⟨1, 0, 0, 5, [], zero32⟩ : Prt)] [0]) = _ from head_read1]
  obtain ⟨a2, c2, rfl⟩ := own_form ho2.1
  have hq2 : q2.length = 1 := by have := congrArg List.length hm2; simpa using this
  rw [hq2]
  have HB2 : Hid (Below w.heap.size w w2) := Lib.hid ((HB1.out.alloc HB1.out.size _).trans (hbl2.mono (by have := HB1.out.size; simp; omega)))
  have HT2 : Hid (Txt w2 (· < w1.heap.size) a1 7 c1 [0, 1, 129, 0, 4, 97, 98]) := Lib.hid ((HT1.out.keep (by simp) (fun b hb _ => Below.heap_alloc _ (.cells (pcells 1 0 0 5 nilv zero32).toArray 28) _ hb)).below hbl2 (fun b hb hS => hb))
  clear ho2 hm2 hbl2 HTA hq2
  rw [show doneOf [] false = 0 from rfl]
  go_wp2_with (first
    | ((with_reducible show wpList _ _ _ ((⟨_, Op.build 28 _, _, _, _, _⟩ : Oper) :: _) _ _); refine wpList_part rfl _ rfl [(0, .int .i64 _), (3, .int .i64 _)] rfl _ (built_km _ _) ?_)
    | ((with_reducible show wpList _ _ _ ((⟨_, Op.buildSlice 23 _ _, _, _, _, _⟩ : Oper) :: _) _ _); refine wpList_build1 rfl 29 rfl _ (psize zero_len) rfl ?_))
  have HTA : Hid (Txt ((w2.alloc (.cells #[.int .u8 128, .int .u8 1] 5)).alloc (.cells (pcells 1 0 0 5 nilv zero32).toArray 28)) (· = w2.heap.size) (some ⟨w2.heap.size, 0, none⟩) 2 2 [128, 1]) := Lib.hid ((txt_new (l := [128, 1]) (by intro x hx; simp only [List.mem_cons, List.not_mem_nil, or_false] at hx; omega)).keep (by simp) (fun b hb _ => Below.heap_alloc _ _ _ hb))
  refine (read_any HTA.out (one_prts (w := w2.alloc (.cells #[.int .u8 128, .int .u8 1] 5)) (size_alloc _ _) HOKS.out.2.2.2.2) (by omega) (by omega)).mono ?_
  rintro e w3 ⟨q3, v3, rfl, ho3, hm3, hbl3⟩
  rw [show (reads [(⟨1, 0, 0, 5, [], zero32⟩ : Prt)] [128, 1]) = _ from head_read2]
  obtain ⟨a3, c3, rfl⟩ := own_form ho3.1
  have HB3 : Hid (Below w.heap.size w w3) := Lib.hid (((HB2.out.alloc HB2.out.size _).alloc (by have := HB2.out.size; simp; omega) _).trans (hbl3.mono (by have := HB2.out.size; simp; omega)))
  have HT3 : Hid (Txt w3 (· < w1.heap.size) a1 7 c1 [0, 1, 129, 0, 4, 97, 98]) := Lib.hid ((HT2.out.keep (w' := ((w2.alloc (.cells #[.int .u8 128, .int .u8 1] 5)).alloc (.cells (pcells 1 0 0 5 nilv zero32).toArray 28))) (by simp; omega) (fun b hb _ => by rw [Below.heap_alloc _ _ _ (by simp; omega), Below.heap_alloc _ _ _ hb])).below hbl3 (fun b hb hS => hb))
  clear ho3 hm3 hbl3 HTA
  rw [show doneOf [] true = 20 from rfl]
  go_wp2_with (first
    | ((with_reducible show wpList _ _ _ ((⟨_, Op.build 28 _, _, _, _, _⟩ : Oper) :: _) _ _); refine wpList_part rfl _ rfl [(0, .int .i64 _), (3, .int .i64 _)] rfl _ (built_km _ _) ?_)
    | ((with_reducible show wpList _ _ _ ((⟨_, Op.buildSlice 23 _ _, _, _, _, _⟩ : Oper) :: _) _ _); refine wpList_build1 rfl 36 rfl _ (psize zero_len) rfl ?_))
  have HTA : Hid (Txt ((w3.alloc (.cells #[.int .u8 0, .int .u8 0] 5)).alloc (.cells (pcells 1 0 0 5 nilv zero32).toArray 28)) (· = w3.heap.size) (some ⟨w3.heap.size, 0, none⟩) 2 2 [0, 0]) := Lib.hid ((txt_new (l := [0, 0]) (by intro x hx; simp only [List.mem_cons, List.not_mem_nil, or_false] at hx; omega)).keep (by simp) (fun b hb _ => Below.heap_alloc _ _ _ hb))
  refine (read_any HTA.out (one_prts (w := w3.alloc (.cells #[.int .u8 0, .int .u8 0] 5)) (size_alloc _ _) HOKS.out.2.2.2.2) (by omega) (by omega)).mono ?_
  rintro e w4 ⟨q4, v4, rfl, ho4, hm4, hbl4⟩
  rw [show (reads [(⟨1, 0, 0, 5, [], zero32⟩ : Prt)] [0, 0]) = _ from head_read3]
  obtain ⟨a4, c4, rfl⟩ := own_form ho4.1
  have HB4 : Hid (Below w.heap.size w w4) := Lib.hid (((HB3.out.alloc HB3.out.size _).alloc (by have := HB3.out.size; simp; omega) _).trans (hbl4.mono (by have := HB3.out.size; simp; omega)))
  have HT4 : Hid (Txt w4 (· < w1.heap.size) a1 7 c1 [0, 1, 129, 0, 4, 97, 98]) := Lib.hid ((HT3.out.keep (w' := ((w3.alloc (.cells #[.int .u8 0, .int .u8 0] 5)).alloc (.cells (pcells 1 0 0 5 nilv zero32).toArray 28))) (by simp; omega) (fun b hb _ => by rw [Below.heap_alloc _ _ _ (by simp; omega), Below.heap_alloc _ _ _ hb])).below hbl4 (fun b hb hS => hb))
  clear ho4 hm4 hbl4 HTA
  rw [show doneOf [0] false = 20 from rfl]
  have hcv1 := convert_txt HT4.out
  have hcv2 : (convert 25 9 (.slice (some ⟨w4.heap.size, 0, none⟩) 7 7)).run Try.prog (w4.alloc (.cells #[.int .u8 0, .int .u8 1, .int .u8 129, .int .u8 0, .int .u8 4, .int .u8 97, .int .u8 98] 5)) = .ok (.string (strOfNums [0, 1, 129, 0, 4, 97, 98])) (w4.alloc (.cells #[.int .u8 0, .int .u8 1, .int .u8 129, .int .u8 0, .int .u8 4, .int .u8 97, .int .u8 98] 5)) :=
    convert_txt (txt_new (l := [0, 1, 129, 0, 4, 97, 98]) (by intro x hx; simp only [List.mem_cons, List.not_mem_nil, or_false] at hx; omega))
  generalize strOfNums [0, 1, 129, 0, 4, 97, 98] = s at *
  go_wp2
  go_ret
  exact ⟨rfl, HB4.out.alloc HB4.out.size _⟩

set_option maxHeartbeats 1000000 in
theorem names_walk (w : World) : Calls Try.prog 3 #[] w fun e w' => e = .returned (.bool true) ∧ Below w.heap.size w w' := by
  go_enter Try.func3, Try.ntmps3
  go_wp2_with fail
  refine (awake_any _).mono ?_; rintro e w1 ⟨rfl, hg⟩
  have HG := Lib.hid hg
  clear hg
  go_wp2
  go_ret
  exact ⟨rfl, HG.out⟩
end Go.Proofs.Ytkmkccdihoaefaa
