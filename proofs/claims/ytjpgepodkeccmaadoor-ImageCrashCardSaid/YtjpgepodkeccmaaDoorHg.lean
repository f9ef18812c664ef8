/-
  Texts in parts, and the walk of Sum.
-/
import Derived.Test.YtjpgepodkeccmaaDoorHf
namespace Go.Proofs.YtjpgepodkeccmaaDoor.Sh
open Go.Proofs.YtjpgepodkeccmaaDoor
set_option maxRecDepth 20000
open Go.RowKit
/-- The slice a, n of texts holds ps; all of it in blocks of S. -/
def Parts (w : World) (S : Nat → Prop) (a : Option Addr) (n : Nat) (ps : List (List Int)) : Prop :=
  ps.length = n ∧ (ps = [] ∨ ∃ b off, a = some ⟨b, off, none⟩ ∧ S b ∧ b < w.heap.size ∧ ∀ k, k < n → ∃ a' n' c', w.cell? ⟨b, off + k, none⟩ = some (.slice a' n' c') ∧ Txt w S a' n' c' (ps.getD k []))
section
variable {w w' : World} {S S' : Nat → Prop} {a : Option Addr} {n : Nat} {ps : List (List Int)}
theorem Parts.keep (h : Parts w S a n ps) (hz : w.heap.size ≤ w'.heap.size) (hk : ∀ b, b < w.heap.size → S b → w'.heap[b]? = w.heap[b]?) : Parts w' S a n ps := by
  obtain ⟨h1, h4⟩ := h
  refine ⟨h1, ?_⟩
  rcases h4 with h | ⟨b, off, rfl, hs, hb, hc⟩
  · exact Or.inl h
  · refine Or.inr ⟨b, off, rfl, hs, by omega, fun k hk' => ?_⟩
    obtain ⟨a', n', c', h1, h2⟩ := hc k hk'
    exact ⟨a', n', c', (World.cell?_of_block (w := w) (hk b hb hs)).trans h1, h2.keep hz hk⟩
theorem Parts.weak (h : Parts w S a n ps) (hs : ∀ b, b < w.heap.size → S b → S' b) : Parts w S' a n ps := by
  obtain ⟨h1, h4⟩ := h
  refine ⟨h1, ?_⟩
  rcases h4 with h | ⟨b, off, rfl, hs', hb, hc⟩
  · exact Or.inl h
  · refine Or.inr ⟨b, off, rfl, hs b hb hs', hb, fun k hk' => ?_⟩
    obtain ⟨a', n', c', h1, h2⟩ := hc k hk'
    exact ⟨a', n', c', h1, h2.weak hs⟩
theorem Parts.old (h : Parts w S a n ps) : Parts w (fun b => b < w.heap.size) a n ps := h.weak fun _ hb _ => hb
theorem Parts.below {B : Nat} (h : Parts w S a n ps) (hb : Below B w w') (hs : ∀ b, b < w.heap.size → S b → b < B) : Parts w' S a n ps :=
  h.keep hb.size fun b hlt hS => hb.block b (hs b hlt hS)
theorem Parts.at_ (h : Parts w S a n ps) {k : Nat} (hk : k < n) : ∃ b off a' n' c', a = some ⟨b, off, none⟩ ∧ w.cell? ⟨b, off + k, none⟩ = some (.slice a' n' c') ∧ Txt w S a' n' c' (ps.getD k []) := by
  obtain ⟨h1, h4⟩ := h
  rcases h4 with h | ⟨b, off, rfl, hs, hb, hc⟩
  · subst h; simp at h1; omega
  · obtain ⟨a', n', c', h1, h2⟩ := hc k hk
    exact ⟨b, off, a', n', c', rfl, h1, h2⟩
end
def zcells : List Value := dcells ⟨0, 0, 0, 0, 0, 0, 0, 0⟩ (zs 64) 0
theorem zero73 (w : World) : (zeroValue 78).run Tryd.prog w = .ok (.agg zcells.toArray) w := by
  have h : (Tryd.prog.info? 78).map (·.zero) = some (some (.agg zcells.toArray)) := by kernel_rfl
  cases hq : Tryd.prog.info? 78 with
  | none => rw [hq] at h; cases h
  | some i =>
    rw [hq] at h
    simp only [Option.map_some, Option.some.injEq] at h
    simp [zeroValue, typeInfo, hq, h]
theorem info73 : (Tryd.prog.info? 78).map (·.size) = some 73 := by kernel_rfl
theorem built73 : Tryd.prog.built 78 [(0, .agg (wds Sm.rH).toArray)] = some (dcells Sm.h0 (zs 64) 0).toArray := by kernel_rfl
theorem dg_zero {w : World} {g : Nat} (h : Whole w g 78 (dcells Sm.h0 (zs 64) 0).toArray) : Dg w g [] := ⟨zs 64, byt_zeros 64, Sm.inBlock_nil (zs_len 64), h⟩
theorem dcells_one (s : Sm.St) (bf : List Int) (n : Nat) : (dcells s bf n).toArray.all (·.oneCell') = true := by
  refine Array.all_eq_true_iff_forall_mem.2 (fun v hv => ?_)
  have hv : v ∈ dcells s bf n := by simpa using hv
  unfold dcells at hv
  rcases List.mem_append.1 hv with h | h
  · exact wds_one _ v h
  · rcases List.mem_append.1 h with h | h
    · exact nums_one _ v h
    · simp at h; subst h; rfl
theorem flat_snoc (ps : List (List Int)) (k : Nat) (hk : k < ps.length) : (ps.take (k + 1)).flatten = (ps.take k).flatten ++ ps.getD k [] := by
  rw [List.take_succ_eq_append_getElem hk, List.flatten_append]
  simp [hk]
theorem flat_le (ps : List (List Int)) (k : Nat) : (ps.take k).flatten.length ≤ ps.flatten.length := by
  conv => rhs; rw [← List.take_append_drop k ps]
  rw [List.flatten_append, List.length_append]; omega
theorem wpList_built {ops : Array Oper} {rest : List Oper} {o : Oper} {a : Act} {w : World} {Q : Exit → Act → World → Prop} {ty : TypeId} (hg : o.guard = none) (parts : Array (Nat × Operand)) (ho : o.op = .build ty parts)
    (vs : List (Nat × Value)) (hv : parts.toList.map (fun q => (q.1, a.eval q.2)) = vs) (cells : List Value) (hc : Tryd.prog.built ty vs = some cells.toArray)
    (h : wpList Tryd.prog ops Q rest (a.put o.dst (.agg cells.toArray)) w) : wpList Tryd.prog ops Q (o :: rest) a w := by
  have e : (parts.map fun (i, x) => (i, a.eval x)).toList = vs := by rw [← hv]; simp
  refine wpList_build hg _ parts ho ?_ ?_
  · rw [e, hc]; rfl
  · rw [e, hc]; exact h
theorem below_of_grown {B g : Nat} {a b c : World} (h : Below B a b) (hg : b.grownBy c (some g)) (hB : B ≤ b.heap.size) (hBg : B ≤ g) : Below B a c :=
  h.trans ⟨hg.os, hg.tape, hg.output, hg.size, fun k hk => hg.block k (by omega) (by intro e; injection e; omega)⟩
set_option maxHeartbeats 2000000 in
theorem sum_any {S : Nat → Prop} {a : Option Addr} {n c : Nat} {ps : List (List Int)} {w : World} (h : Parts w S a n ps) (hR : Roots w) (hsz : ps.flatten.length ≤ 900000) (hn : n ≤ 1000000) :
    Calls Tryd.prog 24 #[.slice a n c] w fun e w' => e = .returned (.agg (nums (Sm.dig ps.flatten)).toArray) ∧ Below w.heap.size w w' := by
  have H := Lib.hid h.old
  have HP : Hid (ps.length = n) := Lib.hid h.1
  have HR := Lib.hid hR
  have hB2 := hR.two
  have hz73 := zero73
  obtain ⟨⟨t0, fr0, hg0⟩, _⟩ := hR
  clear h
  go_enter Tryd.func24, Tryd.ntmps24
  go_wp2_with (first
    | ((with_reducible show wpList _ _ _ ((⟨_, Op.load 75 _, _, _, _, _⟩ : Oper) :: _) _ _); refine wpList_load_row rfl _ (.global 0) rfl 0 rfl t0 (wds Sm.rH).toArray fr0 _ ?k1 undW8 rfl infoW8 ?_)
    | ((with_reducible show wpList _ _ _ ((⟨_, Op.build 78 _, _, _, _, _⟩ : Oper) :: _) _ _); refine wpList_built rfl #[(0, .tmp 6)] rfl [(0, .agg (wds Sm.rH).toArray)] rfl _ built73 ?_)
    | ((with_reducible show wpList _ _ _ ((⟨_, Op.store 78 _ _, _, _, _, _⟩ : Oper) :: _) _ _); refine wpList_store_row rfl _ (.tmp 3) (.tmp 7) rfl (w.heap.size + 1) (dcells Sm.h0 (zs 64) 0).toArray rfl rfl 78 zcells.toArray ?k2 (by rw [List.size_toArray, dcells_size _ _ _ (zs_len 64)]; exact info73) rfl (dcells_one _ _ _) ?_)
    | fail)
  case k1 => exact (Below.heap_alloc w _ 0 (by omega)).trans hg0
  case k2 =>
    have k2 := Whole.new (w.alloc (.cells #[Value.int IntKind.u8 0, Value.int IntKind.u8 0, Value.int IntKind.u8 0, Value.int IntKind.u8 0, Value.int IntKind.u8 0, Value.int IntKind.u8 0, Value.int IntKind.u8 0, Value.int IntKind.u8 0, Value.int IntKind.u8 0, Value.int IntKind.u8 0, Value.int IntKind.u8 0, Value.int IntKind.u8 0, Value.int IntKind.u8 0, Value.int IntKind.u8 0, Value.int IntKind.u8 0, Value.int IntKind.u8 0, Value.int IntKind.u8 0, Value.int IntKind.u8 0, Value.int IntKind.u8 0, Value.int IntKind.u8 0, Value.int IntKind.u8 0, Value.int IntKind.u8 0, Value.int IntKind.u8 0, Value.int IntKind.u8 0, Value.int IntKind.u8 0, Value.int IntKind.u8 0, Value.int IntKind.u8 0, Value.int IntKind.u8 0, Value.int IntKind.u8 0, Value.int IntKind.u8 0, Value.int IntKind.u8 0, Value.int IntKind.u8 0] 39)) 78 zcells.toArray
    rw [size_alloc] at k2
    exact k2
  rw [zero32z]
  have kr := ((Whole.new w 39 (nums (zs 32)).toArray).alloc (.cells zcells.toArray 78)).rowFar (b := w.heap.size + 1) (by omega) (dcells Sm.h0 (zs 64) 0).toArray
  have kd : Whole (((w.alloc (.cells (nums (zs 32)).toArray 39)).alloc (.cells zcells.toArray 78)).setRow (w.heap.size + 1) (dcells Sm.h0 (zs 64) 0).toArray) (w.heap.size + 1) 78 (dcells Sm.h0 (zs 64) 0).toArray := by
    have k2 := Whole.new (w.alloc (.cells (nums (zs 32)).toArray 39)) 78 zcells.toArray
    rw [size_alloc] at k2
    exact k2.row _
  have hb2 : Below w.heap.size w (((w.alloc (.cells (nums (zs 32)).toArray 39)).alloc (.cells zcells.toArray 78)).setRow (w.heap.size + 1) (dcells Sm.h0 (zs 64) 0).toArray) := below_row ((below_alloc w _).alloc (by simp) _) (by omega) _
  generalize ((w.alloc (.cells (nums (zs 32)).toArray 39)).alloc (.cells zcells.toArray 78)).setRow (w.heap.size + 1) (dcells Sm.h0 (zs 64) 0).toArray = w2 at *
  generalize hBe : w.heap.size = B at *
  have HBE := Lib.hid hBe
  have H2 := Lib.hid (And.intro kr (And.intro (dg_zero kd) hb2))
  clear kr kd hb2 hBe hz73 hg0
  go_wp2
  go_loopw [10] (fun i wr => ∃ k : Nat, k ≤ n ∧ i = .int .i64 k ∧ Hid (Whole wr B 39 (nums (zs 32)).toArray ∧ Dg wr (B + 1) (ps.take k).flatten ∧ Below B w wr)) (fun i _ => n - (intOf i).toNat)
  case atStart => exact ⟨0, Nat.zero_le _, rfl, H2⟩
  case round =>
    clear H2
    obtain ⟨k, hk, rfl, HB⟩ := hrel
    by_cases hlt : k < n
    · have hd : decide ((k : Int) < (n : Int)) = true := by simp; omega
      obtain ⟨b, off, a', n', c', rfl, hc, htx⟩ := (H.out.below HB.out.2.2 (fun b _ h => h)).at_ hlt
      have HT := Lib.hid htx
      have hfl := flat_snoc ps k (by rw [HP.out]; exact hlt)
      have hn' : (ps.take k).flatten.length + n' ≤ 900000 := by
        have h1 := flat_le ps (k + 1)
        rw [hfl, List.length_append, htx.1] at h1
        omega
      have HF := Lib.hid hfl
      have HR2 : Hid (Roots wr) := Lib.hid (HR.out.below HB.out.2.2 (by omega))
      clear htx hfl
      go_wp2_with (go_at_call 36; refine (add_any HB.out.2.1 HR2.out (by omega) (HT.out.weak (fun b _ h => by show b ≠ B + 1; have := h; omega)) (by omega)).mono ?_; rintro e w' ⟨rfl, hdg, hgr⟩)
      go_roundw
      case rel =>
        refine ⟨k + 1, by omega, by go_num, Lib.hid ⟨HB.out.1.grown hgr (by intro e; injection e; omega), ?_, below_of_grown HB.out.2.2 hgr (Nat.le_of_lt HB.out.1.lt) (by omega)⟩⟩
        rw [HF.out]; exact hdg
      case measure => simp [intOf]; omega
    · have hd : decide ((k : Int) < (n : Int)) = false := by simp; omega
      have hkn : k = n := by omega
      have hdg := HB.out.2.1
      rw [hkn, List.take_of_length_le (by rw [HP.out]; omega)] at hdg
      have HD := Lib.hid hdg
      have HR2 : Hid (Roots wr) := Lib.hid (HR.out.below HB.out.2.2 (by omega))
      have HKN := Lib.hid hkn
      clear hdg hkn
      go_wp2_with fail
      refine (end_any HD.out HR2.out (by omega) hsz).mono ?_
      rintro e w3 ⟨rfl, hgr⟩
      have hNa := all_nums (Sm.dig ps.flatten)
      have HNS : Hid ((nums (Sm.dig ps.flatten)).toArray.size = 32) := Lib.hid (by simp [nums_len, bytesOf_len, Sm.dig, Sm.St.l])
      have HZ32 : Hid ((nums (zs 32)).toArray.size = 32) := Lib.hid rfl
      have K3 := Lib.hid (HB.out.1.grown hgr (by intro e; injection e; omega))
      have HB3 : Hid (Below B w w3) := Lib.hid (below_of_grown HB.out.2.2 hgr (Nat.le_of_lt HB.out.1.lt) (by omega))
      clear hgr HB
      with_reducible generalize hN : (nums (Sm.dig ps.flatten)).toArray = N at *
      go_wp2_with ((with_reducible show wpList _ _ _ ((⟨_, Op.store 39 _ _, _, _, _, _⟩ : Oper) :: _) _ _); refine wpList_store_row rfl _ (.tmp 2) (.tmp 17) rfl B N rfl rfl 39 _ K3.out (by rw [HNS.out]; exact info32) (by rw [HZ32.out, HNS.out]) hNa ?_)
      refine bodyPost_ret (results_one_cell rfl _ _ _ _ rfl (run_loadVar_row _ _ _ _ _ (0, 0) _ (K3.out.row N) und32 rfl (by rw [HNS.out]; exact info32))) rfl ?_
      exact ⟨by rw [hN], by rw [HBE.out]; exact below_row HB3.out (Nat.le_refl _) N⟩
end Go.Proofs.YtjpgepodkeccmaaDoor.Sh
