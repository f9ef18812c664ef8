/-
  The walk of Encode.
  The walk of the document's Encode.
  The walk of the document's Same, where both are the same manifest.
  The walk of Build.
  The walk of the document's Build.
  The walk of awake; and of ManifestNames.
  The walks of the document's hash and Decode.
  A manifest that came in.
-/
import Derived.Test.YtdfmfjahnnifnaaZn
import Derived.Laws.MakeOwn
import Derived.Laws.CopyOwn
import Derived.Lib.SlBytesConst
import Derived.Test.YtdfmfjahnnifnaaZh
import Derived.Deep.Slices
import Derived.ChangeSlices
import Derived.ChangeOld
import Derived.ProofKit
import Derived.OpenShut
namespace Go.Proofs.Ytdfmfjahnnifnaa
set_option maxRecDepth 20000
set_option linter.unusedSimpArgs false
open Go.RowKit
/-- What Encode answers. -/
def Encd (w : World) (m : Mf.Man) (e : Ending) (w' : World) : Prop :=
  ((m.bad ∧ e = .returned (.tuple #[.slice none 0 0, .int .i64 50])) ∨
    (¬ m.bad ∧ ∃ a n c, e = .returned (.tuple #[.slice a n c, .int .i64 0]) ∧ Txt w' (w.heap.size ≤ ·) a n c (Mf.body m))) ∧ Below w.heap.size w w'
theorem good_in {m : Mf.Man} (h : ¬ m.bad) : 1 ≤ m.size ∧ m.size ≤ 65536 ∧ 1 ≤ m.chunk ∧ m.chunk ≤ 4096 ∧ m.ds.length ≤ 64 := by
  have hn : Mf.cnt m.size m.chunk ≠ 0 := fun e => h (Or.inl e)
  have hl : m.ds.length = Mf.cnt m.size m.chunk := Decidable.byContradiction fun e => h (Or.inr e)
  obtain ⟨h1, h2, h3, h4⟩ := Mf.cnt_in hn
  exact ⟨h1, h2, h3, h4, by rw [hl]; exact Mf.cnt_le _ _⟩
end Go.Proofs.Ytdfmfjahnnifnaa
namespace Go.Proofs.Ytdfmfjahnnifnaa
set_option maxRecDepth 20000
set_option linter.unusedSimpArgs false
open Go.RowKit
theorem own_keep {w w' : World} {base e size n : Nat} {v : Value} {xs : List Value} (h : w.ownsRow base e size v n xs) (hk : ∀ b, v.ownBlock = some b → w'.heap[b]? = w.heap[b]?) : w'.ownsRow base e size v n xs := by
  refine ⟨h.1, ?_⟩
  rcases h.2 with h | ⟨g, cap, cur, rfl, hb, hg, r⟩
  · exact Or.inl h
  · exact Or.inr ⟨g, cap, cur, rfl, hb, (hk g rfl).trans hg, r⟩
theorem txt_range {w : World} {S : Nat → Prop} {b o : Nat} {d : List Int} (hS : S b) (hlt : b < w.heap.size) (h : w.rangeAt b o (nums d)) (hd : Dig d) : Txt w S (some ⟨b, o, none⟩) 32 32 d :=
  ⟨hd.1, Nat.le_refl _, hd.2, Or.inr ⟨b, o, rfl, hS, hlt, fun k hk => h k _ (nums_get d k (by rw [hd.1]; exact hk))⟩⟩
theorem slice_32 (b o : Nat) (w : World) : (Instr.sliceAt 26 (.pointer (some ⟨b, o, none⟩)) none none none).run Try.prog w = .ok (.slice (some ⟨b, o, none⟩) 32 32) w := by
  simp [Instr.sliceAt, Instr.sureAddr, run_underlying und32, sz_u8, Instr.sliceBounds, Instr.sliceBound, Addr.add_lit]
theorem own_lt {w : World} {base e size n : Nat} {v : Value} {xs : List Value} (h : w.ownsRow base e size v n xs) : ∀ b, v.ownBlock = some b → b < w.heap.size := by
  intro b hb
  rcases h.2 with ⟨rfl, _⟩ | ⟨g, cap, cur, rfl, _, hg, _⟩
  · cases hb
  · injection hb with hb
    subst hb
    exact (Array.getElem?_eq_some_iff.1 hg).1
theorem own_ge {w : World} {base e size n : Nat} {v : Value} {xs : List Value} (h : w.ownsRow base e size v n xs) : ∀ b, v.ownBlock = some b → base ≤ b := by
  intro b hb
  rcases h.2 with ⟨rfl, _⟩ | ⟨g, cap, cur, rfl, hg, _⟩
  · cases hb
  · injection hb with hb
    subst hb
    exact hg
end Go.Proofs.Ytdfmfjahnnifnaa
namespace Go.Proofs.Ytdfmfjahnnifnaa
set_option maxRecDepth 20000
set_option linter.unusedSimpArgs false
open Go.RowKit
theorem wpList_load_midG {P : Program} {ops : Array Oper} {rest : List Oper} {op : Oper} {a : Act} {w : World} {Q : Exit → Act → World → Prop} (hgd : Region.wanted op (yielded ops a.tmps) = true) (ty : TypeId) (x : Operand) (ho : op.op = .load ty x)
    (b o : Nat) (hx : a.eval x = .pointer (some ⟨b, o, none⟩)) (cs : List Value) (d : TypeDesc) (hc : w.rangeAt b o cs)
    (hu : P.underlying ty = some d) (hd : d.isRow = true) (hi : (P.info? ty).map (·.size) = some cs.length)
    (h : wpList P ops Q rest (a.put op.dst (.agg cs.toArray)) w) : wpList P ops Q (op :: rest) a w :=
  wpList_step fun _ hK => by rw [if_pos hgd]; exact wp_load_mid ty x ho b o hx cs d hc hu hd hi (hK _ _ h)
set_option maxHeartbeats 4000000 in
theorem same_eq {w : World} {S S' : Nat → Prop} {v v' : Value} {m : Mf.Man} (h : Mv w S v m) (h' : Mv w S' v' m) (hn : m.ds.length ≤ 1000) :
    Calls Try.prog 19 #[v, v'] w fun e w' => e = .returned (.bool true) ∧ Below w.heap.size w w' := by
  obtain ⟨a, n, c, rfl, hnc, hd, hw, hs, hc⟩ := h
  obtain ⟨a', n', c', rfl, hnc', hd', _, _, _⟩ := h'
  have hnn : n' = n := by rw [← hd.1, ← hd'.1]
  subst hnn
  have hn1 : n' ≤ 1000 := by rw [← hd.1]; exact hn
  have HDG := Lib.hid hd.old
  have HDG' := Lib.hid hd'.old
  have c0 : (mcs m.size m.chunk (.slice a n' c) m.wh).toArray[0]? = some (.int .i64 m.size) := rfl
  have c1 : (mcs m.size m.chunk (.slice a n' c) m.wh).toArray[1]? = some (.int .i64 m.chunk) := rfl
  have c2 : (mcs m.size m.chunk (.slice a n' c) m.wh).toArray[2]? = some (.slice a n' c) := rfl
  have ct := Lib.hid (mcs_tail (s := m.size) (c := m.chunk) (x := .slice a n' c) (h := m.wh))
  have e0 : (mcs m.size m.chunk (.slice a' n' c') m.wh).toArray[0]? = some (.int .i64 m.size) := rfl
  have e1 : (mcs m.size m.chunk (.slice a' n' c') m.wh).toArray[1]? = some (.int .i64 m.chunk) := rfl
  have e2 : (mcs m.size m.chunk (.slice a' n' c') m.wh).toArray[2]? = some (.slice a' n' c') := rfl
  have et := Lib.hid (mcs_tail (s := m.size) (c := m.chunk) (x := .slice a' n' c') (h := m.wh))
  have hnd : (nums m.wh).length = 32 := by rw [nums_len, hw.1]
  have hi32 : (Try.prog.info? 26).map (·.size) = some (nums m.wh).length := by rw [hnd]; exact info32
  have HQ : ∀ w : World, (Op.equalIn 10000 26 (.agg (nums m.wh).toArray) (.agg (nums m.wh).toArray)).run Try.prog w = .ok true w := fun w => by
    have h := equal32 9999 (fun a b w => run_equalIn_int w 9998 5 .u8 .u8 a b Try.underlying5) m.wh m.wh hw.1 hw.1 w
    rw [h, decide_eq_true rfl]
  clear hd hd' hw hs hc hnc hnc' hn hnd
  generalize (mcs m.size m.chunk (.slice a n' c) m.wh).toArray = P at *
  generalize (mcs m.size m.chunk (.slice a' n' c') m.wh).toArray = P' at *
  generalize nums m.wh = nw at *
  generalize m.size = sz at *
  generalize m.chunk = ch at *
  have kw : Whole ((w.alloc (.cells P 28)).alloc (.cells P' 28)) w.heap.size 28 P := (Whole.new w 28 P).alloc _
  have kr : Whole ((w.alloc (.cells P 28)).alloc (.cells P' 28)) (w.heap.size + 1) 28 P' := by
    have h := Whole.new (w.alloc (.cells P 28)) 28 P'
    rw [size_alloc] at h; exact h
  have HRG : Hid (((w.alloc (.cells P 28)).alloc (.cells P' 28)).rangeAt w.heap.size 3 nw) := Lib.hid (tail_range kw ct.out)
  have HRG' : Hid (((w.alloc (.cells P 28)).alloc (.cells P' 28)).rangeAt (w.heap.size + 1) 3 nw) := Lib.hid (tail_range kr et.out)
  have H2 : Hid (Whole ((w.alloc (.cells P 28)).alloc (.cells P' 28)) w.heap.size 28 P ∧ Whole ((w.alloc (.cells P 28)).alloc (.cells P' 28)) (w.heap.size + 1) 28 P' ∧ Below w.heap.size w ((w.alloc (.cells P 28)).alloc (.cells P' 28))) := Lib.hid ⟨kw, kr, below_two w _ _⟩
  clear kw kr
  go_enter Try.func19, Try.ntmps19
  go_wp2_with (first
    | ((with_reducible show wpList _ _ _ ((⟨_, Op.load 26 (.tmp 19), _, _, _, _⟩ : Oper) :: _) _ _); refine wpList_load_midG (by rfl) _ (.tmp 19) rfl w.heap.size 3 rfl nw _ HRG.out und32 rfl hi32 ?_)
    | ((with_reducible show wpList _ _ _ ((⟨_, Op.load 26 (.tmp 21), _, _, _, _⟩ : Oper) :: _) _ _); refine wpList_load_midG (by rfl) _ (.tmp 21) rfl (w.heap.size + 1) 3 rfl nw _ HRG'.out und32 rfl hi32 ?_))
  clear HRG HRG' HQ ct et hi32
  generalize (w.alloc (.cells P 28)).alloc (.cells P' 28) = w2 at *
  go_loopw [5] (fun i wr => ∃ k : Nat, k ≤ n' ∧ i = .int .i64 (k : Int) ∧ Hid (Whole wr w.heap.size 28 P ∧ Whole wr (w.heap.size + 1) 28 P' ∧ Below w.heap.size w wr)) (fun i _ => n' - (intOf i).toNat)
  case atStart => exact ⟨0, Nat.zero_le _, rfl, H2⟩
  case round =>
    obtain ⟨k, hk, rfl, HK⟩ := hrel
    have k2 : wr.cell? ⟨w.heap.size, 2, none⟩ = some (.slice a n' c) := by rw [HK.out.1.cell]; exact c2
    have k3 : wr.cell? ⟨w.heap.size + 1, 2, none⟩ = some (.slice a' n' c') := by rw [HK.out.2.1.cell]; exact e2
    by_cases hlt : k < n'
    · obtain ⟨b, off, rfl, hbS, hbl, hrg, hdg⟩ := HDG.out.cell_at hlt
      obtain ⟨b', off', rfl, hbS', hbl', hrg', _⟩ := HDG'.out.cell_at hlt
      have rg1 : wr.drew.rangeAt b (off + k * 32) _ := range_below hrg HK.out.2.2.drew hbl
      have rg2 : wr.drew.rangeAt b' (off' + k * 32) _ := range_below hrg' HK.out.2.2.drew hbl'
      have HKD := Lib.hid (show Whole wr.drew w.heap.size 28 P ∧ Whole wr.drew (w.heap.size + 1) 28 P' ∧ Below w.heap.size w wr.drew from ⟨HK.out.1, HK.out.2.1, HK.out.2.2.drew⟩)
      have k21 : wr.drew.cell? ⟨w.heap.size, 2, none⟩ = _ := k2
      have k31 : wr.drew.cell? ⟨w.heap.size + 1, 2, none⟩ = _ := k3
      generalize m.ds.getD k [] = d at *
      have hnd : (nums d).length = 32 := by rw [nums_len, hdg.1]
      have hi32 : (Try.prog.info? 26).map (·.size) = some (nums d).length := by rw [hnd]; exact info32
      have hu := und32
      have HQ : ∀ w : World, (Op.equalIn 10000 26 (.agg (nums d).toArray) (.agg (nums d).toArray)).run Try.prog w = .ok true w := fun w => by
        have h := equal32 9999 (fun a b w => run_equalIn_int w 9998 5 .u8 .u8 a b Try.underlying5) d d hdg.1 hdg.1 w
        rw [h, decide_eq_true rfl]
      clear hdg hrg hrg' hnd
      generalize nums d = nd at *
      go_wp2
      refine wp_region_held_drew (S := fun w' => w'.cell? ⟨w.heap.size, 2, none⟩ = some (.slice (some ⟨b, off, none⟩) n' c) ∧ w'.cell? ⟨w.heap.size + 1, 2, none⟩ = some (.slice (some ⟨b', off', none⟩) n' c') ∧ w'.rangeAt b (off + k * 32) nd ∧ w'.rangeAt b' (off' + k * 32) nd) (by kernel_rfl) ⟨k21, k31, rg1, rg2⟩ (fun hHeld => ?_)
      refine wpAnyH_take (i := 0) (v := .pointer (some ⟨w.heap.size, 2, none⟩)) rfl (by kernel_rfl) (by kernel_rfl) (by kernel_rfl) (fun _ _ _ h => h) (Or.inl ⟨by rfl, (by intro w hSw; (try dsimp only at hSw); go_simp)⟩) (by assumption) ?_
      try simp only [Act.put, List.getElem_toArray, List.getElem_cons_zero, List.getElem_cons_succ, List.setIfInBounds_toArray, List.set_cons_zero, List.set_cons_succ]
      refine wpAnyH_take (i := 1) (v := .slice (some ⟨b, off, none⟩) n' c) rfl (by kernel_rfl) (by kernel_rfl) (by kernel_rfl) (fun _ _ _ h => h) (Or.inl ⟨by rfl, (by intro w hSw; (try dsimp only at hSw); go_simp)⟩) (by assumption) ?_
      try simp only [Act.put, List.getElem_toArray, List.getElem_cons_zero, List.getElem_cons_succ, List.setIfInBounds_toArray, List.set_cons_zero, List.set_cons_succ]
      refine wpAnyH_take (i := 2) (v := .int .i64 (k : Int)) rfl (by kernel_rfl) (by kernel_rfl) (by kernel_rfl) (fun _ _ _ h => h) (Or.inl ⟨by rfl, (by intro w hSw; (try dsimp only at hSw); go_simp)⟩) (by assumption) ?_
      try simp only [Act.put, List.getElem_toArray, List.getElem_cons_zero, List.getElem_cons_succ, List.setIfInBounds_toArray, List.set_cons_zero, List.set_cons_succ]
      refine wpAnyH_take (i := 3) (v := .pointer (some ⟨b, off + k * 32, none⟩)) rfl (by kernel_rfl) (by kernel_rfl) (by kernel_rfl) (fun _ _ _ h => h) (Or.inl ⟨by rfl, (by intro w hSw; (try dsimp only at hSw); go_simp)⟩) (by assumption) ?_
      try simp only [Act.put, List.getElem_toArray, List.getElem_cons_zero, List.getElem_cons_succ, List.setIfInBounds_toArray, List.set_cons_zero, List.set_cons_succ]
      refine wpAnyH_take (i := 4) (v := .agg nd.toArray) rfl (by kernel_rfl) (by kernel_rfl) (by kernel_rfl) (fun _ _ _ h => h) (yieldsIf_load_mid (by rfl) _ _ rfl _ _ rfl _ _ (fun w hSw => hSw.2.2.1) hu rfl hi32) (by assumption) ?_
      try simp only [Act.put, List.getElem_toArray, List.getElem_cons_zero, List.getElem_cons_succ, List.setIfInBounds_toArray, List.set_cons_zero, List.set_cons_succ]
      refine wpAnyH_take (i := 5) (v := .pointer (some ⟨w.heap.size + 1, 2, none⟩)) rfl (by kernel_rfl) (by kernel_rfl) (by kernel_rfl) (fun _ _ _ h => h) (Or.inl ⟨by rfl, (by intro w hSw; (try dsimp only at hSw); go_simp)⟩) (by assumption) ?_
      try simp only [Act.put, List.getElem_toArray, List.getElem_cons_zero, List.getElem_cons_succ, List.setIfInBounds_toArray, List.set_cons_zero, List.set_cons_succ]
      refine wpAnyH_take (i := 6) (v := .slice (some ⟨b', off', none⟩) n' c') rfl (by kernel_rfl) (by kernel_rfl) (by kernel_rfl) (fun _ _ _ h => h) (Or.inl ⟨by rfl, (by intro w hSw; (try dsimp only at hSw); go_simp)⟩) (by assumption) ?_
      try simp only [Act.put, List.getElem_toArray, List.getElem_cons_zero, List.getElem_cons_succ, List.setIfInBounds_toArray, List.set_cons_zero, List.set_cons_succ]
      refine wpAnyH_take (i := 7) (v := .int .i64 (k : Int)) rfl (by kernel_rfl) (by kernel_rfl) (by kernel_rfl) (fun _ _ _ h => h) (Or.inl ⟨by rfl, (by intro w hSw; (try dsimp only at hSw); go_simp)⟩) (by assumption) ?_
      try simp only [Act.put, List.getElem_toArray, List.getElem_cons_zero, List.getElem_cons_succ, List.setIfInBounds_toArray, List.set_cons_zero, List.set_cons_succ]
      refine wpAnyH_take (i := 8) (v := .pointer (some ⟨b', off' + k * 32, none⟩)) rfl (by kernel_rfl) (by kernel_rfl) (by kernel_rfl) (fun _ _ _ h => h) (Or.inl ⟨by rfl, (by intro w hSw; (try dsimp only at hSw); go_simp)⟩) (by assumption) ?_
      try simp only [Act.put, List.getElem_toArray, List.getElem_cons_zero, List.getElem_cons_succ, List.setIfInBounds_toArray, List.set_cons_zero, List.set_cons_succ]
      refine wpAnyH_take (i := 9) (v := .agg nd.toArray) rfl (by kernel_rfl) (by kernel_rfl) (by kernel_rfl) (fun _ _ _ h => h) (yieldsIf_load_mid (by rfl) _ _ rfl _ _ rfl _ _ (fun w hSw => hSw.2.2.2) hu rfl hi32) (by assumption) ?_
      try simp only [Act.put, List.getElem_toArray, List.getElem_cons_zero, List.getElem_cons_succ, List.setIfInBounds_toArray, List.set_cons_zero, List.set_cons_succ]
      refine wpAnyH_take (i := 10) (v := .bool false) rfl (by kernel_rfl) (by kernel_rfl) (by kernel_rfl) (fun _ _ _ h => h) (Or.inl ⟨by rfl, (by intro w hSw; (try dsimp only at hSw); go_simp)⟩) (by assumption) ?_
      try simp only [Act.put, List.getElem_toArray, List.getElem_cons_zero, List.getElem_cons_succ, List.setIfInBounds_toArray, List.set_cons_zero, List.set_cons_succ]
      refine wpAnyH_done (by kernel_rfl) ?_ _
      go_wp2
      exact ⟨⟨k + 1, by omega, by go_num, HKD⟩, by simp [intOf]; omega⟩
    · obtain rfl : k = n' := by omega
      go_wp2
      go_ret
      exact ⟨rfl, HK.out.2.2⟩
end Go.Proofs.Ytdfmfjahnnifnaa
namespace Mf
def bld (img : List Int) (c : Int) : Man := if cnt img.length c = 0 then zero else made img c
def berr (img : List Int) (c : Int) : Int := if cnt img.length c = 0 then 1 else 0
theorem ck_len (img : List Int) (c k : Nat) : (ck img c k).length = min c (img.length - k * c) := by simp [ck]
theorem ck_pos {img : List Int} {c k N : Nat} (hN : ((N : Int) - 1) * c < img.length) (hc : 1 ≤ c) (hk : k < N) : 0 < (ck img c k).length := by
  rw [ck_len]
  have h1 : (k : Int) * c ≤ ((N : Int) - 1) * c := Int.mul_le_mul_of_nonneg_right (by omega) (by omega)
  have h2 : ((k * c : Nat) : Int) = (k : Int) * c := by push_cast; rfl
  omega
theorem ck_none {img : List Int} {c N : Nat} (hN : (img.length : Int) ≤ (N : Int) * c) : (ck img c N).length = 0 := by
  rw [ck_len]
  have h2 : ((N * c : Nat) : Int) = (N : Int) * c := by push_cast; rfl
  omega
theorem ck_take (img : List Int) (c k : Nat) : (img.drop (k * c)).take c = ck img c k := rfl
theorem ck_drop (img : List Int) (c k : Nat) : (img.drop (k * c)).drop c = img.drop ((k + 1) * c) := by rw [List.drop_drop, Nat.add_mul, Nat.one_mul]
end Mf
namespace Go.Proofs.Ytdfmfjahnnifnaa
set_option maxRecDepth 20000
set_option linter.unusedSimpArgs false
open Go.RowKit
theorem built_szw32 (s c h0 h1 h2 h3 h4 h5 h6 h7 h8 h9 h10 h11 h12 h13 h14 h15 h16 h17 h18 h19 h20 h21 h22 h23 h24 h25 h26 h27 h28 h29 h30 h31 : Int) : Try.prog.built 28 [(0, .int .i64 s), (1, .int .i64 c), (3, .agg (nums [h0, h1, h2, h3, h4, h5, h6, h7, h8, h9, h10, h11, h12, h13, h14, h15, h16, h17, h18, h19, h20, h21, h22, h23, h24, h25, h26, h27, h28, h29, h30, h31]).toArray)] = some (mcs s c (.slice none 0 0) [h0, h1, h2, h3, h4, h5, h6, h7, h8, h9, h10, h11, h12, h13, h14, h15, h16, h17, h18, h19, h20, h21, h22, h23, h24, h25, h26, h27, h28, h29, h30, h31]).toArray := by kernel_rfl
theorem built_szw (s c : Int) (h : List Int) (hh : h.length = 32) : Try.prog.built 28 [(0, .int .i64 s), (1, .int .i64 c), (3, .agg (nums h).toArray)] = some (mcs s c (.slice none 0 0) h).toArray := by
  match h, hh with
  | [h0, h1, h2, h3, h4, h5, h6, h7, h8, h9, h10, h11, h12, h13, h14, h15, h16, h17, h18, h19, h20, h21, h22, h23, h24, h25, h26, h27, h28, h29, h30, h31], _ => exact built_szw32 s c h0 h1 h2 h3 h4 h5 h6 h7 h8 h9 h10 h11 h12 h13 h14 h15 h16 h17 h18 h19 h20 h21 h22 h23 h24 h25 h26 h27 h28 h29 h30 h31
theorem built_sz (s c : Int) : Try.prog.built 28 [(0, .int .i64 s), (1, .int .i64 c)] = some (mcs s c (.slice none 0 0) (zs 32)).toArray := by kernel_rfl
theorem built_nil : Try.prog.built 28 [] = some (mcs 0 0 (.slice none 0 0) (zs 32)).toArray := by kernel_rfl
theorem zeroM : #[Value.int IntKind.i64 0, Value.int IntKind.i64 0, Value.slice none 0 0, Value.int IntKind.u8 0, Value.int IntKind.u8 0, Value.int IntKind.u8 0, Value.int IntKind.u8 0, Value.int IntKind.u8 0, Value.int IntKind.u8 0, Value.int IntKind.u8 0, Value.int IntKind.u8 0, Value.int IntKind.u8 0, Value.int IntKind.u8 0, Value.int IntKind.u8 0, Value.int IntKind.u8 0, Value.int IntKind.u8 0, Value.int IntKind.u8 0, Value.int IntKind.u8 0, Value.int IntKind.u8 0, Value.int IntKind.u8 0, Value.int IntKind.u8 0, Value.int IntKind.u8 0, Value.int IntKind.u8 0, Value.int IntKind.u8 0, Value.int IntKind.u8 0, Value.int IntKind.u8 0, Value.int IntKind.u8 0, Value.int IntKind.u8 0, Value.int IntKind.u8 0, Value.int IntKind.u8 0, Value.int IntKind.u8 0, Value.int IntKind.u8 0, Value.int IntKind.u8 0, Value.int IntKind.u8 0, Value.int IntKind.u8 0] = (mcs 0 0 (.slice none 0 0) (zs 32)).toArray := rfl
/-- The zero manifest's cells. -/
def zm : Array Value := (mcs 0 0 (.slice none 0 0) (zs 32)).toArray
theorem zm_size : zm.size = 35 := rfl
theorem zm_mv (w : World) (S : Nat → Prop) : Mv w S (.agg zm) Mf.zero := ⟨none, 0, 0, rfl, Nat.le_refl _, Digs.nil _ _ _, ⟨rfl, byt_zeros 32⟩, ⟨by decide, by decide⟩, ⟨by decide, by decide⟩⟩
theorem results_cell_one {fn : Func} {p u : Tmp} {ty : TypeId} (h : fn.results = #[.cell p ty, .tmp u]) (tmps : Array Value) (P : Program) (w : World) (a : Addr) {v : Value} (ht : tmps.getD p undef = .pointer (some a)) (hv : (loadVar ty a).run P w = .ok v w) :
    (results fn tmps).run P w = .ok (.tuple #[v, tmps.getD u undef]) w := by
  rw [results_cell_tmp h, ht]
  simp [asAddr, hv]
theorem loadVar35 {w : World} {b : Nat} {t : TypeId} {cs : Array Value} (h : Whole w b t cs) (hs : cs.size = 35) : (loadVar 28 ⟨b, 0, none⟩).run Try.prog w = .ok (.agg cs) w :=
  run_loadVar_row w b t _ cs (0, 0) _ h Try.underlying28 rfl (by rw [hs]; exact info35)
/-- What Build answers. -/
def Bldd (w : World) (img : List Int) (c : Int) (e : Ending) (w' : World) : Prop :=
  (∃ v, e = .returned (.tuple #[v, .int .i64 (Mf.berr img c)]) ∧ Mv w' (w.heap.size ≤ ·) v (Mf.bld img c)) ∧ Below w.heap.size w w'
def lenV : Value → Nat
  | .slice _ n _ => n
  | _ => 0
def lenAt (w : World) (R : Nat) : Nat := match w.cell? ⟨R, 0, none⟩ with
  | some v => lenV v
  | none => 0
theorem take_drop_len (l : List Int) (k : Nat) : (l.take k).length + (l.drop k).length = l.length := by
  rw [List.length_take, List.length_drop]; omega
theorem bld_zero {img : List Int} {c : Int} (h : Mf.cnt img.length c = 0) : Mf.bld img c = Mf.zero ∧ Mf.berr img c = 1 := by
  unfold Mf.bld Mf.berr; rw [if_pos h, if_pos h]; exact ⟨rfl, rfl⟩
theorem bld_made {img : List Int} {c : Int} (h : Mf.cnt img.length c ≠ 0) : Mf.bld img c = Mf.made img c ∧ Mf.berr img c = 0 := by
  unfold Mf.bld Mf.berr; rw [if_neg h, if_neg h]; exact ⟨rfl, rfl⟩
end Go.Proofs.Ytdfmfjahnnifnaa
namespace Go.Proofs.Ytdfmfjahnnifnaa
set_option maxRecDepth 20000
set_option linter.unusedSimpArgs false
open Go.RowKit
theorem wpList_store_part {P : Program} {ops : Array Oper} {rest : List Oper} {op : Oper} {a : Act} {w : World} {Q : Exit → Act → World → Prop} (hgd : op.guard = none) {n : TypeId} {cur : List Value} (ty : TypeId) (x y : Operand) (ho : op.op = .store ty x y)
    (g o : Nat) (cells : List Value) (hx : a.eval x = .pointer (some ⟨g, o, none⟩)) (hy : a.eval y = .agg cells.toArray)
    (hg : Whole w g n cur.toArray) (hi : (P.info? ty).map (·.size) = some cells.length) (h1 : ∀ v ∈ cells, v.oneCell' = true) (hf : o + cells.length ≤ cur.length)
    (h : wpList P ops Q rest (a.put op.dst undef) (w.setRow g (splice cur o cells).toArray)) : wpList P ops Q (op :: rest) a w :=
  wpList_plain hgd fun _ hK => wp_store_part ty x y ho g o cells hx hy hg hi h1 hf (hK _ _ h)
theorem yields_man {ops : Array Oper} {S : World → Prop} {o : Oper} {a : Act} (hw : Region.wanted o (yielded ops a.tmps) = true) (parts : List (Nat × Operand)) (ho : o.op = .build 28 parts.toArray)
    (vs : List (Nat × Value)) (hv : parts.map (fun q => (q.1, a.eval q.2)) = vs) (cells : List Value) (hc : Try.prog.built 28 vs = some cells.toArray) : YieldsIf Try.prog ops S o (.agg cells.toArray) a := by
  have e : (parts.toArray.map fun (i, x) => (i, a.eval x)).toList = vs := by rw [← hv]; simp
  refine Or.inl ⟨hw, fun w _ => ?_⟩
  unfold execOp
  simp only [ho, Sem.run_bind, run_build w 28 _ cells.toArray (by rw [e, hc]), Result.andThen_ok]
  rfl
theorem zs_get (n j : Nat) (h : j < n) : (nums (zs n))[j]? = some (.int .u8 0) := by
  rw [nums_get _ _ (by rw [zs_len]; exact h)]
  unfold zs
  simp [h]
theorem made_digs (n : Nat) : madeCells (nums (zs 32)).toArray (n * 32) = (nums (zs (n * 32))).toArray := by
  have hs : (nums (zs 32)).toArray.size = 32 := rfl
  apply Array.ext_getElem?
  intro i
  by_cases hi : i < n * 32
  · have hr : (nums (zs (n * 32))).toArray[i]? = some (.int .u8 0) := by rw [List.getElem?_toArray]; exact zs_get _ _ hi
    rw [hr]
    unfold madeCells
    rw [Array.getElem?_map, hs]
    simp [hi, zs_get 32 (i % 32) (Nat.mod_lt _ (by omega))]
  · rw [Array.getElem?_eq_none (by rw [size_madeCells]; omega), Array.getElem?_eq_none (by rw [List.size_toArray, nums_len, zs_len]; omega)]
theorem make_digs (n : Nat) (hn : n ≤ 1000) (w : World) : (Instr.makeSlice 25 (.int .i64 (n : Int)) (.int .i64 (n : Int))).run Try.prog w = .ok (.slice (some ⟨w.heap.size, 0, none⟩) n n) (w.alloc (.cells (nums (zs (n * 32))).toArray 26)) := by
  obtain ⟨i, hi, hz, hsize, hby⟩ := info_parts dig_info
  have h := run_make (P := Try.prog) w 25 26 i _ Try.underlying25 hi hz .i64 .i64 (n : Int) (n : Int) (by omega) (Int.le_refl _) (by rw [hby]; omega) (by omega)
  rw [hsize] at h
  simp only [Int.toNat_natCast, Value.cells] at h
  rw [made_digs] at h
  exact h
theorem txt_mid {w : World} {S : Nat → Prop} {a : Option Addr} {n c i j : Nat} {l : List Int} (h : Txt w S a n c l) (h1 : i ≤ j) (h2 : j ≤ n) : Txt w S (if c = i then a else a.map (·.add i)) (j - i) (c - i) ((l.drop i).take (j - i)) :=
  (h.drop i (by omega)).take (j - i) (by omega)
theorem ck_mid (img : List Int) (c k t : Nat) (ht : t = min ((k + 1) * c) img.length) (hk : k * c ≤ img.length) : (img.drop (k * c)).take (t - k * c) = Mf.ck img c k := by
  unfold Mf.ck
  have e : (k + 1) * c = k * c + c := by rw [Nat.add_mul, Nat.one_mul]
  by_cases h : (k + 1) * c ≤ img.length
  · rw [ht, Nat.min_eq_left h, e, Nat.add_sub_cancel_left]
  · rw [ht, Nat.min_eq_right (by omega), List.take_of_length_le (by rw [List.length_drop]; omega), List.take_of_length_le (by rw [List.length_drop]; omega)]
/-- The digests so far, and the others as they were made. -/
def dsTo (img : List Int) (ch N k : Nat) : List (List Int) := Mf.digsTo img ch k ++ List.replicate (N - k) (zs 32)
theorem dsTo_ok (img : List Int) (ch N k : Nat) : ∀ d ∈ dsTo img ch N k, Dig d := by
  intro d hd
  rcases List.mem_append.1 hd with h | h
  · exact Mf.digsTo_ok _ _ _ d h
  · rw [(List.mem_replicate.1 h).2]; exact ⟨rfl, byt_zeros 32⟩
theorem dsTo_len (img : List Int) (ch : Nat) {N k : Nat} (hk : k ≤ N) : (dsTo img ch N k).length = N := by
  unfold dsTo; rw [List.length_append, Mf.digsTo_len, List.length_replicate]; omega
theorem dsTo_all (img : List Int) (ch N : Nat) : dsTo img ch N N = Mf.digsTo img ch N := by unfold dsTo; simp
theorem rep_flat (n : Nat) : (List.replicate n (zs 32)).flatten = zs (n * 32) := by
  induction n with
  | zero => rfl
  | succ n ih =>
    rw [List.replicate_succ, List.flatten_cons, ih]
    unfold zs
    rw [← List.replicate_append_replicate.symm]
    congr 1; omega
theorem dsTo_zero (img : List Int) (ch N : Nat) : (dsTo img ch N 0).flatten = zs (N * 32) := by
  unfold dsTo
  rw [List.flatten_append, Nat.sub_zero, rep_flat]
  simp [Mf.digsTo]
theorem dsTo_splice (img : List Int) (ch : Nat) {N k : Nat} (hk : k < N) : splice (nums (dsTo img ch N k).flatten) (k * 32) (nums (Mf.cdig k (Mf.ck img ch k))) = nums (dsTo img ch N (k + 1)).flatten := by
  have hl : (nums (Mf.digsTo img ch k).flatten).length = k * 32 := by rw [nums_len, Mf.flatten_len (Mf.digsTo_ok _ _ _), Mf.digsTo_len]; omega
  have hd : (nums (Mf.cdig k (Mf.ck img ch k))).length = 32 := by rw [nums_len, (Mf.cdig_ok _ _).1]
  have hz : (nums (zs 32)).length = 32 := by rw [nums_len]; rfl
  unfold splice dsTo
  rw [show N - k = (N - (k + 1)) + 1 by omega, List.replicate_succ, Mf.digsTo_succ]
  simp only [List.flatten_append, List.flatten_cons, List.flatten_nil, List.append_nil, nums_append, List.append_assoc]
  rw [List.take_append_of_le_length (by omega), List.take_of_length_le (by omega), hd, List.drop_append, hl]
  rw [List.drop_of_length_le (by omega), List.nil_append, show k * 32 + 32 - k * 32 = 32 by omega, List.drop_append_of_le_length (by omega), List.drop_of_length_le (by omega), List.nil_append]
/-- What holds while the document's manifest is filled. -/
structure Rst (w : World) (M D : Nat) (img : List Int) (ch N k : Nat) (wr : World) : Prop where
  m : Whole wr M 28 (mcs img.length ch (.slice (some ⟨D, 0, none⟩) N N) (Sm.dig img)).toArray
  d : Whole wr D 26 (nums (dsTo img ch N k).flatten).toArray
  z : Whole wr w.heap.size 28 zm
  b : Below w.heap.size w wr
  lt : w.heap.size < M ∧ w.heap.size < D ∧ M ≠ D
theorem Rst.below {w : World} {M D : Nat} {img : List Int} {ch N k : Nat} {wr w' : World} (h : Rst w M D img ch N k wr) (hb : Below wr.heap.size wr w') : Rst w M D img ch N k w' :=
  ⟨h.m.below hb h.m.lt, h.d.below hb h.d.lt, h.z.below hb h.z.lt, h.b.trans (hb.mono h.b.size), h.lt⟩
theorem Rst.stored {w : World} {M D : Nat} {img : List Int} {ch N k : Nat} {wr : World} (h : Rst w M D img ch N k wr) (hk : k < N) : Rst w M D img ch N (k + 1) (wr.setRow D (splice (nums (dsTo img ch N k).flatten) (k * 32) (nums (Mf.cdig k (Mf.ck img ch k)))).toArray) := by
  obtain ⟨l1, l2, l3⟩ := h.lt
  rw [dsTo_splice img ch hk]
  exact ⟨h.m.rowFar l3 _, h.d.row _, h.z.rowFar (by omega) _, below_row h.b (by omega) _, h.lt⟩
theorem Rst.mv {w : World} {M D : Nat} {img : List Int} {ch N k : Nat} {wr : World} (h : Rst w M D img ch N k wr) (hk : k ≤ N) (hi : img.length ≤ 100000) (hc : ch ≤ 100000) :
    Mv wr (· = D) (.agg (mcs img.length ch (.slice (some ⟨D, 0, none⟩) N N) (Sm.dig img)).toArray) ⟨img.length, ch, dsTo img ch N k, Sm.dig img⟩ := by
  refine ⟨some ⟨D, 0, none⟩, N, N, rfl, Nat.le_refl _, ⟨dsTo_len _ _ hk, dsTo_ok _ _ _ _, Or.inr ⟨D, 0, rfl, rfl, h.d.lt, fun j hj r v hv => ?_⟩⟩, dig_ok img, ⟨by show (-9223372036854775808 : Int) ≤ (img.length : Int); omega, by show (img.length : Int) ≤ 9223372036854775807; omega⟩, ⟨by show (-9223372036854775808 : Int) ≤ (ch : Int); omega, by show (ch : Int) ≤ 9223372036854775807; omega⟩⟩
  have hr : r < 32 := by
    have h1 := (List.getElem?_eq_some_iff.1 hv).1
    have hdk : ((dsTo img ch N k).getD j []).length = 32 := by
      have : (dsTo img ch N k).getD j [] = (dsTo img ch N k)[j]'(by rw [dsTo_len _ _ hk]; exact hj) := by simp [dsTo_len _ _ hk, hj]
      rw [this]; exact (dsTo_ok _ _ _ _ _ (List.getElem_mem _)).1
    rw [nums_len, hdk] at h1; exact h1
  rw [h.d.cell, List.getElem?_toArray, Nat.zero_add, flat_idx (dsTo_ok _ _ _ _) j r (by rw [dsTo_len _ _ hk]; exact hj) hr]
  exact hv
theorem part_vals {img : List Int} {ch N k : Nat} {ds : List (List Int)} {wh : List Int} (hN : Mf.cnt img.length ch = N) (hds : ds.length = N) (hk : k < N) :
    Mf.fr ⟨img.length, ch, ds, wh⟩ (k : Int) = ((k * ch : Nat) : Int) ∧ Mf.til ⟨img.length, ch, ds, wh⟩ (k : Int) = ((min ((k + 1) * ch) img.length : Nat) : Int) ∧ k * ch < min ((k + 1) * ch) img.length := by
  have hne : Mf.cnt img.length ch ≠ 0 := by omega
  have hoff : ¬ Mf.off ⟨img.length, ch, ds, wh⟩ (k : Int) := by
    intro h
    rcases h with h | h | h
    · rcases h with h | h
      · exact hne h
      · exact h (by rw [hds]; exact hN.symm)
    · omega
    · simp only [hds] at h; omega
  obtain ⟨_, _, _, _, h3, _, _, _, h7, h8, h9⟩ := Mf.off_not hoff
  have e1 : ((k * ch : Nat) : Int) = (k : Int) * (ch : Int) := by push_cast; rfl
  have e2 : (((k + 1) * ch : Nat) : Int) = ((k : Int) + 1) * (ch : Int) := by push_cast; rfl
  simp only at h3 h7 h8 h9
  refine ⟨?_, ?_, ?_⟩
  · unfold Mf.fr; rw [if_neg hoff, e1]
  · unfold Mf.til; rw [if_neg hoff]
    simp only
    split <;> omega
  · omega
theorem built_all32 (s c : Int) (a : Option Addr) (n k : Nat) (h0 h1 h2 h3 h4 h5 h6 h7 h8 h9 h10 h11 h12 h13 h14 h15 h16 h17 h18 h19 h20 h21 h22 h23 h24 h25 h26 h27 h28 h29 h30 h31 : Int) : Try.prog.built 28 [(0, .int .i64 s), (1, .int .i64 c), (2, .slice a n k), (3, .agg (nums [h0, h1, h2, h3, h4, h5, h6, h7, h8, h9, h10, h11, h12, h13, h14, h15, h16, h17, h18, h19, h20, h21, h22, h23, h24, h25, h26, h27, h28, h29, h30, h31]).toArray)] = some (mcs s c (.slice a n k) [h0, h1, h2, h3, h4, h5, h6, h7, h8, h9, h10, h11, h12, h13, h14, h15, h16, h17, h18, h19, h20, h21, h22, h23, h24, h25, h26, h27, h28, h29, h30, h31]).toArray := by kernel_rfl
theorem built_all (s c : Int) (a : Option Addr) (n k : Nat) (h : List Int) (hh : h.length = 32) : Try.prog.built 28 [(0, .int .i64 s), (1, .int .i64 c), (2, .slice a n k), (3, .agg (nums h).toArray)] = some (mcs s c (.slice a n k) h).toArray := by
  match h, hh with
  | [h0, h1, h2, h3, h4, h5, h6, h7, h8, h9, h10, h11, h12, h13, h14, h15, h16, h17, h18, h19, h20, h21, h22, h23, h24, h25, h26, h27, h28, h29, h30, h31], _ => exact built_all32 s c a n k h0 h1 h2 h3 h4 h5 h6 h7 h8 h9 h10 h11 h12 h13 h14 h15 h16 h17 h18 h19 h20 h21 h22 h23 h24 h25 h26 h27 h28 h29 h30 h31
end Go.Proofs.Ytdfmfjahnnifnaa
namespace Go.Proofs.Ytdfmfjahnnifnaa
set_option maxRecDepth 20000
set_option linter.unusedSimpArgs false
open Go.RowKit
/-- The block A holds the manifest m. -/
def Has (w : World) (A : Nat) (P : Array Value) (m : Mf.Man) : Prop := Whole w A 28 P ∧ Mv w (fun b => b < w.heap.size) (.agg P) m
theorem Has.below {w w' : World} {A : Nat} {P : Array Value} {m : Mf.Man} (h : Has w A P m) (hb : Below w.heap.size w w') : Has w' A P m :=
  ⟨h.1.below hb h.1.lt, (h.2.below hb (fun _ _ h => h)).old⟩
theorem mv_agg {w : World} {S : Nat → Prop} {v : Value} {m : Mf.Man} (h : Mv w S v m) : ∃ P : Array Value, v = .agg P ∧ P.size = 35 ∧ P.all (·.oneCell') = true := by
  obtain ⟨a, n, c, rfl, h1, h2, h3, h4⟩ := h
  exact ⟨_, rfl, msize h3.1, mcs_one rfl⟩
/-- A manifest that is laid into a variable of its own. -/
theorem has_put {w : World} {S : Nat → Prop} {P : Array Value} {m : Mf.Man} (h : Mv w S (.agg P) m) (z : Array Value) : Has ((w.alloc (.cells z 28)).setRow w.heap.size P) w.heap.size P m :=
  ⟨put_row, (h.old.below (put_below (Below.refl _ _) (Nat.le_refl _)) (fun _ _ h => h)).old⟩
theorem has_load {w : World} {A : Nat} {P : Array Value} {m : Mf.Man} (h : Has w A P m) {ops : Array Oper} {rest : List Oper} {op : Oper} {a : Act} {Q : Exit → Act → World → Prop} (hgd : Region.wanted op (yielded ops a.tmps) = true) (x : Operand) (ho : op.op = .load 28 x) (hx : a.eval x = .pointer (some ⟨A, 0, none⟩))
    (hn : wpList Try.prog ops Q rest (a.put op.dst (.agg P)) w) : wpList Try.prog ops Q (op :: rest) a w := by
  obtain ⟨P', e, hs, _⟩ := mv_agg h.2
  injection e with e
  subst e
  exact wpList_step fun _ hK => by
    rw [if_pos hgd]
    exact wp_load_row _ x ho A hx 28 P (0, 0) _ h.1 Try.underlying28 rfl (by rw [hs]; exact info35) (hK _ _ hn)
theorem wpList_builtG {ops : Array Oper} {rest : List Oper} {o : Oper} {a : Act} {w : World} {Q : Exit → Act → World → Prop} {ty : TypeId} (hg : Region.wanted o (yielded ops a.tmps) = true) (parts : Array (Nat × Operand)) (ho : o.op = .build ty parts)
    (vs : List (Nat × Value)) (hv : parts.toList.map (fun q => (q.1, a.eval q.2)) = vs) (cells : List Value) (hc : Try.prog.built ty vs = some cells.toArray)
    (h : wpList Try.prog ops Q rest (a.put o.dst (.agg cells.toArray)) w) : wpList Try.prog ops Q (o :: rest) a w := by
  have e : (parts.map fun (i, x) => (i, a.eval x)).toList = vs := by rw [← hv]; simp
  refine wpList_step fun _ hK => ?_
  rw [if_pos hg]
  unfold Oper.wp execOp
  simp only [ho, Sem.run_bind, run_build w ty _ cells.toArray (by rw [e, hc]), Result.andThen_ok]
  exact hK _ _ h
theorem num_one {n : Int} (h0 : 0 ≤ n) (h1 : n ≤ 63) : (Cd.num n).length = 1 := by
  have hf : Cd.fold n / 128 = 0 := by unfold Cd.fold; rw [if_neg (by omega)]; omega
  unfold Cd.num Cd.encU
  rw [hf, Cd.tops_zero]
  rfl
def digits : List Int := [48, 49, 50, 51, 52, 53, 54, 55, 56, 57]
/-- What is known of the manifest of ten bytes. -/
theorem ten : ∃ m : Mf.Man, Mf.bld digits 4 = m ∧ Mf.berr digits 4 = 0 ∧ ¬ m.bad ∧ m.ds.length = 3 ∧ Mf.fr m 2 = 8 ∧ Mf.til m 2 = 10 ∧ (Mf.body m).length = 130 ∧ Mf.dec (Mf.body m) = some m ∧
    Mf.ver m 0 [48, 49, 50, 51] = 0 ∧ Mf.ver m 0 [48, 49, 50] = 51 ∧ Mf.who m digits = 0 := by
  have hc : Mf.cnt ((digits.length : Nat) : Int) 4 = 3 := by decide
  have hne : Mf.cnt ((digits.length : Nat) : Int) 4 ≠ 0 := by rw [hc]; decide
  have hb := bld_made hne
  refine ⟨_, rfl, hb.2, ?_⟩
  rw [hb.1]
  have hbad := Mf.bad_made hne
  have hds : (Mf.made digits 4).ds.length = 3 := by show (Mf.digsTo _ _ (Mf.cnt ((digits.length : Nat) : Int) 4)).length = 3; rw [Mf.digsTo_len, hc]
  have hok : ∀ d ∈ (Mf.made digits 4).ds, Dig d := Mf.digsTo_ok _ _ _
  have hw : Dig (Mf.made digits 4).wh := dig_ok _
  have p2 := part_vals (img := digits) (ch := 4) (N := 3) (k := 2) (ds := (Mf.made digits 4).ds) (wh := (Mf.made digits 4).wh) hc hds (by decide)
  have p0 := part_vals (img := digits) (ch := 4) (N := 3) (k := 0) (ds := (Mf.made digits 4).ds) (wh := (Mf.made digits 4).wh) hc hds (by decide)
  have hoff : ¬ Mf.off (Mf.made digits 4) 0 := by
    intro h
    rcases h with h | h | h
    · exact hbad h
    · omega
    · rw [hds] at h; omega
  have e0 : Mf.fr (Mf.made digits 4) 0 = 0 := p0.1
  have e1 : Mf.til (Mf.made digits 4) 0 = 4 := p0.2.1
  refine ⟨hbad, hds, p2.1, p2.2.1, ?_, Mf.dec_body hbad hok hw, ?_, ?_, ?_⟩
  · rw [Mf.body_len hok hw, hds]
    show (Cd.num 10).length + (Cd.num 4).length + 32 * 4 = 130
    rw [num_one (by omega) (by omega), num_one (by omega) (by omega)]
  · rw [ver_in hoff, e0, e1, if_neg (by decide), if_pos]
    have h1 : (Mf.made digits 4).ds = Mf.digsTo digits 4 3 := by show Mf.digsTo _ _ (Mf.cnt ((digits.length : Nat) : Int) 4) = _; rw [hc]; rfl
    rw [h1]
    rfl
  · rw [ver_in hoff, e0, e1, if_pos (by decide)]
  · rw [who_in hbad, if_neg (by show ¬ ((digits.length : Nat) : Int) ≠ (digits.length : Nat); simp)]
    exact if_pos rfl
theorem has_chunks {w : World} {A : Nat} {P : Array Value} {m : Mf.Man} (h : Has w A P m) : ∃ a n c, w.cell? ⟨A, 2, none⟩ = some (.slice a n c) ∧ m.ds.length = n := by
  obtain ⟨a, n, c, e, h1, h2, _⟩ := h.2
  injection e with e
  subst e
  exact ⟨a, n, c, h.1.cell 2, h2.1⟩
theorem txt_new {w : World} {t : TypeId} {fr : Nat × Nat} {l : List Int} {n : Nat} (S : Nat → Prop) (hS : S w.heap.size) (hb : Byt l) (hn : l.length = n) : Txt (w.alloc (.cells (nums l).toArray t fr)) S (some ⟨w.heap.size, 0, none⟩) n n l := by
  refine ⟨hn, Nat.le_refl _, hb, Or.inr ⟨w.heap.size, 0, rfl, hS, by rw [size_alloc]; omega, fun j hj => ?_⟩⟩
  rw [cell_of_row _ w.heap.size (0 + j) _ t fr (heap_alloc_new w _), Nat.zero_add, List.getElem?_toArray, nums_get _ _ (by omega)]
end Go.Proofs.Ytdfmfjahnnifnaa
set_option maxRecDepth 20000
namespace Mf
open Go.Proofs.Ytdfmfjahnnifnaa
theorem getN_some {l r : List Int} {u : Int} (h : Cd.parse l = some (u, r)) : Cd.getN l = (Cd.unfold u.toNat, l.length - r.length) := by unfold Cd.getN; rw [h]
/-- What is decoded, by the document's Get. -/
theorem dec_get {l : List Int} (hb : Byt l) {sz ch : Int} {j k : Nat} (h1 : Cd.getN l = (sz, j)) (h2 : Cd.getN (l.drop j) = (ch, k)) :
    (j = 0 ∨ k = 0 ∨ 65536 < sz ∨ 4096 < ch → dec l = none) ∧
    (¬ (j = 0 ∨ k = 0 ∨ 65536 < sz ∨ 4096 < ch) → j + k ≤ l.length ∧ dec l = decR (max sz 0) (max ch 0) (l.drop (j + k))) := by
  cases e1 : Cd.parse l with
  | none =>
    have hg := Cd.getN_none e1
    rw [hg] at h1
    injection h1 with ha hb'
    have hd : dec l = none := by unfold dec Cd.get; rw [e1]
    exact ⟨fun _ => hd, fun h => absurd (Or.inl hb'.symm) h⟩
  | some x =>
    obtain ⟨u, r⟩ := x
    rw [getN_some e1] at h1
    injection h1 with ha hj
    obtain ⟨_, _, hl⟩ := Cd.parse_enc e1 hb
    have hlen := congrArg List.length hl
    rw [List.length_append] at hlen
    have hdr : l.drop j = r := by
      rw [show j = (Cd.encU u.toNat).length by omega, hl]
      exact List.drop_left
    have hbr : Byt r := byt_right (a := Cd.encU u.toNat) (by rw [← hl]; exact hb)
    have hget : Cd.get 1 65536 l = if 1 ≤ sz ∧ sz ≤ 65536 then some (sz, r) else none := by unfold Cd.get; rw [e1]; simp only [ha]
    rw [hdr] at h2
    cases e2 : Cd.parse r with
    | none =>
      have hg := Cd.getN_none e2
      rw [hg] at h2
      injection h2 with hc hk
      have hd : dec l = none := by
        unfold dec; rw [hget]
        split
        · rfl
        · rename_i s' r' he
          split at he
          · injection he with he
            injection he with _ he
            subst he
            unfold Cd.get; rw [e2]
          · cases he
      exact ⟨fun _ => hd, fun h => absurd (Or.inr (Or.inl hk.symm)) h⟩
    | some y =>
      obtain ⟨v, q⟩ := y
      rw [getN_some e2] at h2
      injection h2 with hc hk
      obtain ⟨_, _, hr⟩ := Cd.parse_enc e2 hbr
      have hlen2 := congrArg List.length hr
      rw [List.length_append] at hlen2
      have hget2 : Cd.get 1 4096 r = if 1 ≤ ch ∧ ch ≤ 4096 then some (ch, q) else none := by unfold Cd.get; rw [e2]; simp only [hc]
      have hdq : l.drop (j + k) = q := by
        rw [← List.drop_drop, hdr, show k = (Cd.encU v.toNat).length by omega]
        conv => lhs; rw [hr]
        exact List.drop_left
      have hdec : dec l = if (1 ≤ sz ∧ sz ≤ 65536) ∧ (1 ≤ ch ∧ ch ≤ 4096) then decR sz ch q else none := by
        unfold dec
        rw [hget]
        by_cases c1 : 1 ≤ sz ∧ sz ≤ 65536
        · rw [if_pos c1]
          simp only
          rw [hget2]
          by_cases c2 : 1 ≤ ch ∧ ch ≤ 4096
          · rw [if_pos c2, if_pos ⟨c1, c2⟩]
          · rw [if_neg c2, if_neg (fun h => c2 h.2)]
        · rw [if_neg c1, if_neg (fun h => c1 h.1)]
      have hp1 := Cd.encU_pos u.toNat
      have hp2 := Cd.encU_pos v.toNat
      refine ⟨fun h => ?_, fun h => ⟨by omega, ?_⟩⟩
      · rw [hdec, if_neg]
        intro hh
        rcases h with h | h | h | h <;> omega
      · rw [hdec, hdq]
        by_cases c1 : 1 ≤ sz
        · by_cases c2 : 1 ≤ ch
          · rw [if_pos ⟨⟨c1, by omega⟩, ⟨c2, by omega⟩⟩, show max sz 0 = sz by omega, show max ch 0 = ch by omega]
          · rw [if_neg (fun h => c2 h.2.1)]
            unfold decR
            rw [if_pos (Or.inl (cnt_bad (by omega)))]
        · rw [if_neg (fun h => c1 h.1.1)]
          unfold decR
          rw [if_pos (Or.inl (cnt_bad (by omega)))]
theorem getN_le {l : List Int} (hb : Byt l) : (Cd.getN l).2 ≤ l.length ∧ In64 (Cd.getN l).1 := by
  cases e1 : Cd.parse l with
  | none => rw [Cd.getN_none e1]; exact ⟨Nat.zero_le _, by show (-9223372036854775808 : Int) ≤ 0; omega, by show (0 : Int) ≤ 9223372036854775807; omega⟩
  | some x =>
    obtain ⟨u, r⟩ := x
    rw [getN_some e1]
    obtain ⟨h1, h2, _⟩ := Cd.parse_enc e1 hb
    exact ⟨Nat.sub_le _ _, Cd.unfold_range (by omega)⟩
end Mf
namespace Go.Proofs.Ytdfmfjahnnifnaa
set_option linter.unusedSimpArgs false
open Go.RowKit
theorem hash_new {w : World} : Whole ((w.alloc (.cells (nums (zs 32)).toArray 26)).alloc (.cells (nums (zs 32)).toArray 26)) (w.heap.size + 1) 26 (nums (zs 32)).toArray := by
  have h := Whole.new (w.alloc (.cells (nums (zs 32)).toArray 26)) 26 (nums (zs 32)).toArray
  rw [size_alloc] at h
  exact h
theorem out_set (l : List Int) (k : Nat) (hl : l.length = 32) (hk : k < 32) : (nums (l.take k ++ zs (32 - k))).toArray.setIfInBounds k (.int .u8 (l.getD k 0)) = (nums (l.take (k + 1) ++ zs (32 - (k + 1)))).toArray := by
  have e : zs (32 - k) = 0 :: zs (32 - (k + 1)) := by
    unfold zs
    rw [show 32 - k = (32 - (k + 1)) + 1 by omega, List.replicate_succ]
  have hlt : k < l.length := by omega
  have e2 : l.take (k + 1) = l.take k ++ [l.getD k 0] := by
    rw [List.take_succ_eq_append_getElem hlt]
    simp [hlt]
  rw [e, nums_set (l.take k) _ _ _ k (by simp; omega), e2]
  simp
theorem built_z32 : Try.prog.built 26 [] = some (nums (zs 32)).toArray := by kernel_rfl
/-- What holds while the document's digests are read: k of them are appended. -/
structure Gst (w : World) (Bo X M : Nat) (s c : Int) (wh : List Int) (q : List Int) (k : Nat) (v : Value) (wr : World) : Prop where
  m : Whole wr M 28 (mcs s c v wh).toArray
  own : wr.ownsRow Bo 26 32 v k (nums (Mf.cut q k).flatten)
  x : Whole wr X 28 zm
  b : Below w.heap.size w wr
  hb : Bo ≤ wr.heap.size
  lt : w.heap.size ≤ X ∧ X < M ∧ M < Bo
theorem Gst.below {w : World} {Bo X M : Nat} {s c : Int} {wh q : List Int} {k : Nat} {v : Value} {wr w' : World} (h : Gst w Bo X M s c wh q k v wr) (hb : Below wr.heap.size wr w') : Gst w Bo X M s c wh q k v w' :=
  ⟨h.m.below hb h.m.lt, own_keep h.own (fun b hq => hb.block b (own_lt h.own b hq)), h.x.below hb h.x.lt, h.b.trans (hb.mono h.b.size), Nat.le_trans h.hb hb.size, h.lt⟩
end Go.Proofs.Ytdfmfjahnnifnaa
namespace Go.Proofs.Ytdfmfjahnnifnaa
set_option maxRecDepth 20000
open Go.ChangeShapes Go.WideShapes Go.RowKit Go.Deep
section
variable {H : Type} {enc : TypeId × Value → H} {w : World}
theorem three (cs : List Value) (h : cs.length = 35) : ∃ c0 c1 c2 r, cs = c0 :: c1 :: c2 :: r ∧ r.length = 32 := by
  match cs, h with
  | c0 :: c1 :: c2 :: r, h => exact ⟨c0, c1, c2, r, rfl, by simpa using h⟩
theorem open_mcs {m : Nat} {cs : List Value} {x : DataW H × List MemPlace} (h : DataW.trod enc Try.prog w 0 (fun _ => true) true m 28 cs = some x) :
    ∃ mm : Mf.Man, Mv w (fun b => b < w.heap.size) (.agg cs.toArray) mm := by
  obtain ⟨xs, m', _, _, hcl, hxl, hf⟩ := DataW.trod_struct Try.underlying28 h
  have hcl' : cs.length = 35 := hcl.trans (by kernel_rfl)
  have hxl' : xs.length = 4 := hxl
  obtain ⟨c0, c1, c2, r, rfl, hr⟩ := three cs hcl'
  have k0 : Try.prog.cellsOf 3 = 1 := by kernel_rfl
  have k2 : Try.prog.cellsOf 25 = 1 := by kernel_rfl
  have k3 : Try.prog.cellsOf 26 = 32 := by kernel_rfl
  obtain ⟨y0, hy0⟩ := some_of hxl' (i := 0) (by omega)
  obtain ⟨y1, hy1⟩ := some_of hxl' (i := 1) (by omega)
  obtain ⟨y2, hy2⟩ := some_of hxl' (i := 2) (by omega)
  obtain ⟨y3, hy3⟩ := some_of hxl' (i := 3) (by omega)
  have f0 : DataW.trod enc Try.prog w 0 (fun _ => true) true m' 3 (((c0 :: c1 :: c2 :: r).drop 0).take (Try.prog.cellsOf 3)) = some y0 := (hf 0 _ rfl).trans hy0
  have f1 : DataW.trod enc Try.prog w 0 (fun _ => true) true m' 3 (((c0 :: c1 :: c2 :: r).drop 1).take (Try.prog.cellsOf 3)) = some y1 := (hf 1 _ rfl).trans hy1
  have f2 : DataW.trod enc Try.prog w 0 (fun _ => true) true m' 25 (((c0 :: c1 :: c2 :: r).drop 2).take (Try.prog.cellsOf 25)) = some y2 := (hf 2 _ rfl).trans hy2
  have f3 : DataW.trod enc Try.prog w 0 (fun _ => true) true m' 26 (((c0 :: c1 :: c2 :: r).drop 3).take (Try.prog.cellsOf 26)) = some y3 := (hf 3 _ rfl).trans hy3
  rw [k0] at f0 f1
  rw [k2] at f2
  rw [k3] at f3
  simp only [List.drop_succ_cons, List.drop_zero, List.take_succ_cons, List.take_zero] at f0 f1 f2 f3
  rw [List.take_of_length_le (by omega)] at f3
  obtain ⟨n0, e0, _, g0⟩ := DataW.trod_int Try.underlying3 f0
  obtain ⟨n1, e1, _, g1⟩ := DataW.trod_int Try.underlying3 f1
  obtain ⟨hh, hl32, e3⟩ := open_h32 hr f3
  obtain ⟨a, l, c, e2⟩ : ∃ a l c, c2 = .slice a l c := by
    rcases open_slice Try.underlying25 f2 with ⟨hcs, _⟩ | ⟨ad, l, c, _, _, _, _, hcs, _⟩
    · injection hcs with hcs _; exact ⟨_, _, _, hcs⟩
    · injection hcs with hcs _; exact ⟨_, _, _, hcs⟩
  subst e2
  obtain ⟨ds, hle, hdg⟩ := open_digs f2
  injection e0 with e0 _
  injection e1 with e1 _
  subst e0 e1 e3
  exact ⟨⟨n0, n1, ds, hh⟩, a, l, c, rfl, hle, hdg, hl32, i64_in g0, i64_in g1⟩
theorem open_man {base : Nat} {r : Reach} {v : Value} {d : DataW H} {ps : List MemPlace} (hv : Value.okWide Try.prog w r base 28 v) (h : DataW.Trod enc Try.prog w 0 (fun _ => true) true 28 v d ps) : ∃ m : Mf.Man, Mv w (fun b => b < w.heap.size) v m := by
  simp only [Value.okWide, Try.underlying28] at hv
  obtain ⟨cs, rfl, h2, _⟩ := hv
  obtain ⟨fuel, hf⟩ := h
  have h3 := open_mcs (cs := cs.toList) (by simpa [Value.cells] using hf)
  simpa using h3
end
end Go.Proofs.Ytdfmfjahnnifnaa
