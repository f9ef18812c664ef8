/-
  The walk of CrcTurns.
-/
import Derived.Test.YtiagblmnmknnfaaKg
import Derived.Deep.DeepCutAuto
import Derived.Lib.ConvBytes
import Derived.Lib.Bytes
namespace Go.Proofs.Ytiagblmnmknnfaa
open Go.RowKit
theorem convert_txt {w : World} {S : Nat → Prop} {a : Option Addr} {n c : Nat} {l : List Int} (h : Txt w S a n c l) : (convert 23 9 (.slice a n c)).run Try.prog w = .ok (.string (strOfNums l)) w := by
  rcases h.2.2.2 with h0 | ⟨b, off, rfl, _, _, hc⟩
  · subst h0
    have hn : n = 0 := h.1.symm
    subst hn
    cases a with
    | none => exact run_convert_bytes_nil w 23 5 Try.underlying23 Try.underlying5 0 c 9 Try.underlying9
    | some ad =>
      rw [run_convert_bytes_string w 23 9 5 _ 0 c Try.underlying23 Try.underlying5 Try.underlying9]
      rw [run_bytesToString w ad 0 c [] rfl]
      rfl
  · exact run_convert_bytes_arg w 23 5 Try.underlying23 Try.underlying5 b off n c l h.1 hc 9 Try.underlying9
theorem beq_decide {α : Type} [BEq α] [LawfulBEq α] {x y : α} {p : Prop} [Decidable p] (h : x = y ↔ p) : (x == y) = decide p := by
  by_cases hp : p
  · rw [decide_eq_true hp, beq_iff_eq]; exact h.2 hp
  · rw [decide_eq_false hp, beq_eq_false_iff_ne]; exact fun e => hp (h.1 e)
theorem byt_set {l : List Int} (h : Byt l) {v : Int} (h0 : 0 ≤ v) (h1 : v < 256) (k : Nat) : Byt (l.set k v) := by
  intro x hx
  rcases List.mem_or_eq_of_mem_set hx with h' | h'
  · exact h x h'
  · subst h'; exact ⟨h0, h1⟩
theorem byt_back {x : List Int} (h : Byt x) : (x.map fun n => UInt8.ofNat n.toNat).map (fun b => (b.toNat : Int)) = x := by
  induction x with
  | nil => rfl
  | cons x l ih =>
    have hx := h x (by simp)
    have e : ((UInt8.ofNat x.toNat).toNat : Int) = x := by
      rw [UInt8.toNat_ofNat']
      have : x.toNat < 256 := by omega
      omega
    rw [List.map_cons, List.map_cons, ih (fun y hy => h y (by simp [hy])), e]
theorem strOf_inj {x y : List Int} (h : strOfNums x = strOfNums y) (hx : Byt x) (hy : Byt y) : x = y := by
  have h1 := congrArg (fun s => s.data.toList.map fun b => (b.toNat : Int)) h
  simp only [strOfNums_data] at h1
  rw [byt_back hx, byt_back hy] at h1
  exact h1
theorem str_toList {x y : List Int} (h : (strOfNums x).toList = (strOfNums y).toList) : strOfNums x = strOfNums y := by
  rw [Lib.strOfNums_toList, Lib.strOfNums_toList] at h
  exact congrArg (fun l => (⟨l.toArray⟩ : ByteArray)) h
set_option linter.unusedSimpArgs false in
set_option maxHeartbeats 4000000 in
theorem turns_walk (a0 : Option Addr) (n0 c0 : Nat) (l0 : List Int) (at0 : Int) (z : List Int) (w : World) (h0 : Txt w (· < w.heap.size) a0 n0 c0 l0) (hlo : -9223372036854775808 ≤ at0) (hhi : at0 ≤ 9223372036854775807) (hz : z.length = 4) (hzb : Byt z) :
    Calls Try.prog 6 #[.slice a0 n0 c0, .int .i64 at0, .agg (nums z).toArray] w fun e w' => e = .returned (.bool true) ∧ Below w.heap.size w w' := by
  obtain ⟨i0, HI0⟩ := u8_infos
  have HI := Lib.hid HI0
  have H0 := Lib.hid h0
  have HZ := Lib.hid (And.intro hz hzb)
  clear h0 hz hzb HI0
  by_cases g0 : n0 = 0
  · have d0 : ((n0 : Int) == 0) = true := by simp; omega
    go_enter Try.func6, Try.ntmps6
    go_wp2_with fail
    refine (awake_any _).mono ?_
    rintro e w1 ⟨rfl, hb⟩
    have HB : Hid (Below w.heap.size w w1) := Lib.hid ((below_alloc w _).trans (hb.mono (by simp)))
    clear hb
    go_wp2
    go_ret
    exact ⟨rfl, HB.out⟩
  have d0 : ((n0 : Int) == 0) = false := by simp; omega
  by_cases g1 : 500 < n0
  · have d1 : decide ((500 : Int) < (n0 : Int)) = true := by simp; omega
    go_enter Try.func6, Try.ntmps6
    go_wp2_with fail
    refine (awake_any _).mono ?_
    rintro e w1 ⟨rfl, hb⟩
    have HB : Hid (Below w.heap.size w w1) := Lib.hid ((below_alloc w _).trans (hb.mono (by simp)))
    clear hb
    go_wp2
    go_ret
    exact ⟨rfl, HB.out⟩
  have d1 : decide ((500 : Int) < (n0 : Int)) = false := by simp; omega
  go_enter Try.func6, Try.ntmps6
  go_wp2_with fail
  have kz := Whole.new w 30 (nums z).toArray
  have hb0 := below_alloc w (.cells (nums z).toArray 30)
  generalize w.alloc (.cells (nums z).toArray 30) = w0 at *
  refine (awake_any _).mono ?_
  rintro e w1 ⟨rfl, hb⟩
  generalize hBe : w.heap.size = B at *
  have HBE := Lib.hid hBe
  clear hBe
  have H1 : Hid (Whole w1 B 30 (nums z).toArray ∧ Below B w w1) := Lib.hid ⟨kz.below hb kz.lt, hb0.trans (hb.mono (Nat.le_of_lt kz.lt))⟩
  clear hb hb0 kz
  go_upto_if 21 with (fail)
  go_cut [1] (fun v wr => ∃ m : Nat, m ≤ 9223372036854775807 ∧ v = .int .i64 (m : Int) ∧ Hid (Whole wr B 30 (nums z).toArray ∧ Below B w wr))
  case first =>
    by_cases hneg : at0 < 0
    · have e1 : IntKind.i64.wrap (at0 + 1) = at0 + 1 := IntWalk.i64_in _ (by omega)
      have e2 : IntKind.i64.wrap (-(at0 + 1)) = -(at0 + 1) := IntWalk.i64_in _ (by omega)
      go_wp2_with fail
      go_meet
      exact ⟨(-(at0 + 1)).toNat, by omega, by rw [Int.toNat_of_nonneg (by omega)], H1⟩
    · go_wp2_with fail
      go_meet
      exact ⟨at0.toNat, by omega, by rw [Int.toNat_of_nonneg (by omega)], H1⟩
  case rest =>
    obtain ⟨m, hm, rfl, HC⟩ := hcut
    clear H1
    obtain ⟨A, hA⟩ : ∃ A, m % n0 = A := ⟨_, rfl⟩
    have hAn : A < n0 := by rw [← hA]; exact Nat.mod_lt _ (by omega)
    have hrem : (m : Int).tmod (n0 : Int) = (A : Int) := by
      rw [Int.tmod_eq_emod_of_nonneg (by omega), ← hA]; rfl
    have hn0 : ¬ (n0 : Int) = 0 := by omega
    have HA := Lib.hid hA
    have sB : B < wc.heap.size := HC.out.1.lt
    clear hA
    go_wp2_with (at_builtin; refine wpList_append_txt _ rfl (.tmp 29) (.tmp 30) 23 rfl wc.heap.size 5 i0 (.int .u8 0) 1 Try.underlying23 HI.out.1 HI.out.2.1 HI.out.2.2.1 HI.out.2.2.2 rfl _ 0 [] rfl ?c1 (· < B) a0 n0 c0 l0 rfl ?c2 ?c3 ?c4 ?c5 ?_)
    case c1 => exact World.ownsRow_lit wc #[] 0 (Nat.le_refl _) (by unfold maxLen; omega) rfl
    case c2 => exact (H0.out.below HC.out.2 (fun _ _ h => h)).keep (by simp) fun b hb _ => Below.heap_alloc _ _ _ hb
    case c3 => unfold maxLen; omega
    case c4 => omega
    case c5 => simp
    intro v2 w2 hown hg hq
    have HO0 : Hid (w2.ownsRow wc.heap.size 5 1 v2 n0 (nums l0)) := Lib.hid hown
    have HW2 : Hid (Whole w2 B 30 (nums z).toArray ∧ Below B w w2) := Lib.hid ⟨(HC.out.1.alloc _).grown hg (slice_ne (Nat.ne_of_lt sB)), (HC.out.2.alloc (Nat.le_of_lt sB) _).grown hg (by simp; omega) (fun k hk => slice_row hk (Nat.le_of_lt sB))⟩
    obtain ⟨Q, cap, rfl, _⟩ := own_at HO0.out hq
    have gQ : wc.heap.size ≤ Q := (own_lt HO0.out).1
    clear hown hg hq HC
    generalize wc.heap.size = D at *
    have H2 : Hid (l0.length = n0 ∧ Byt l0 ∧ w2.ownsRow D 5 1 (.slice (some ⟨Q, 0, none⟩) n0 cap) n0 (nums l0) ∧ Whole w2 B 30 (nums z).toArray ∧ Below B w w2) := Lib.hid ⟨H0.out.1, H0.out.2.2.1, HO0.out, HW2.out.1, HW2.out.2⟩
    clear HO0 HW2
    clear hrem hn0 hm HA
    go_wp2
    go_loopw [9] (fun i wr => ∃ k : Nat, k ≤ 4 ∧ i = .int .i64 k ∧ ∃ cl, Hid (cl.length = n0 ∧ Byt cl ∧ cl.take A = l0.take A ∧ cl.drop (A + 4) = l0.drop (A + 4) ∧ wr.ownsRow D 5 1 (.slice (some ⟨Q, 0, none⟩) n0 cap) n0 (nums cl) ∧ Whole wr B 30 (nums z).toArray ∧ Below B w wr)) (fun i _ => 4 - (intOf i).toNat)
    case atStart => exact ⟨0, by omega, rfl, l0, Lib.hid ⟨H2.out.1, H2.out.2.1, rfl, rfl, H2.out.2.2⟩⟩
    case round =>
      clear H2
      obtain ⟨k, hk, rfl, cl, HL⟩ := hrel
      have ea : IntKind.i64.wrap ((A : Int) + (k : Int)) = (A : Int) + (k : Int) := IntWalk.i64_in _ (by omega)
      by_cases hk4 : k < 4
      · by_cases hlt : A + k < n0
        · have t1 : decide ((k : Int) < 4) = true := by simp; omega
          have t2 : decide ((A : Int) + (k : Int) < (n0 : Int)) = true := by simp; omega
          have ct : wr.cell? ⟨Q, A + k, none⟩ = some (.int .u8 (cl.getD (A + k) 0)) := (HL.out.2.2.2.2.1.cellAt (A + k) (by omega)).trans (nums_get _ _ (by have := HL.out.1; omega))
          have fw : wr.frozen? ⟨Q, A + k, none⟩ = false := HL.out.2.2.2.2.1.frozenAt (A + k)
          have cz : wr.cell? ⟨B, k, none⟩ = some (.int .u8 (z.getD k 0)) := (HL.out.2.2.2.2.2.1.cell k).trans (by rw [List.getElem?_toArray, nums_get _ _ (by have := HZ.out.1; omega)])
          have hv := byte_xor (cl.getD (A + k) 0) (z.getD k 0) (byt_getD HL.out.2.1 _) (byt_getD HZ.out.2 _)
          have HV := Lib.hid hv.1
          clear hv
          generalize cl.getD (A + k) 0 = x at *
          generalize z.getD k 0 = y at *
          have n1 : ((A : Int) + (k : Int)).toNat = A + k := by omega
          have p1 : 0 ≤ (A : Int) + (k : Int) := by omega
          have q1 : (k : Int) < 4 := by omega
          have q2 : (A : Int) + (k : Int) < (n0 : Int) := by omega
          go_wp2
          go_still_tail 14, (by kernel_rfl)
          change wpList _ _ _ _ _ wr.drew
          go_wp2
          refine ⟨⟨k + 1, by omega, by go_num, cl.set (A + k) (bits .xor .u8 x y), Lib.hid ⟨by rw [List.length_set]; exact HL.out.1, byt_set HL.out.2.1 HV.out.1 HV.out.2 _, ?_, ?_, ?_, ?_, ?_⟩⟩, by simp [intOf]; omega⟩
          · rw [List.take_set_of_le (by omega)]; exact HL.out.2.2.1
          · rw [List.drop_set_of_lt (by omega)]; exact HL.out.2.2.2.1
          · have h := (HL.out.2.2.2.2.1.stored (A + k) (.int .u8 (bits .xor .u8 x y))).1
            rw [show (nums cl).set (A + k) (.int .u8 (bits .xor .u8 x y)) = nums (cl.set (A + k) (bits .xor .u8 x y)) by simp [nums, List.map_set]] at h
            exact h
          · exact HL.out.2.2.2.2.2.1.far (p := ⟨Q, A + k, none⟩) (by show B ≠ Q; omega) _
          · exact (HL.out.2.2.2.2.2.2.setCell (by show B ≤ Q; omega) _).drew
        · have t1 : decide ((k : Int) < 4) = true := by simp; omega
          have t2 : decide ((A : Int) + (k : Int) < (n0 : Int)) = false := by simp; omega
          have HF := Lib.hid (And.intro HL.out.2.2.2.2.2.2 (And.intro (show Hid (Txt wr (fun _ => True) (some ⟨Q, 0, none⟩) n0 cap cl) from Lib.hid (by
            obtain ⟨a, c, e, ht⟩ := Txt.own HL.out.2.2.2.2.1 HL.out.2.1
            injection e with e1 _ e3
            subst e1 e3
            exact ht.weak fun _ _ _ => trivial)).out (Cm.turns H0.out.2.2.1 HL.out.2.1 (by rw [HL.out.1, H0.out.1]) A HL.out.2.2.1 HL.out.2.2.2.1)))
          have HCB := Lib.hid HL.out.2.1
          clear HL
          obtain ⟨p, s, t, eC, eB, HX, hp1, hp2⟩ : ∃ (p : Bool) (s t : ByteArray) (eC eB : BitVec 32), Hid (strOfNums cl = s ∧ strOfNums l0 = t ∧ Cm.more 0#32 cl = eC ∧ Cm.more 0#32 l0 = eB) ∧ (num eC == num eB) = p ∧ (s.toList == t.toList) = p := by
            refine ⟨decide (cl = l0), _, _, _, _, Lib.hid ⟨rfl, rfl, rfl, rfl⟩, ?_, ?_⟩
            · rw [num_beq]; exact beq_decide HF.out.2.2
            · exact beq_decide ⟨fun h => strOf_inj (str_toList h) HCB.out H0.out.2.2.1, fun h => by rw [h]⟩
          clear HCB
          go_wp2_with fail
          have HB0 : Hid (Below B w wr.drew) := Lib.hid HF.out.1.drew
          have HT0 : Hid (Txt wr.drew (fun _ => True) (some ⟨Q, 0, none⟩) n0 cap cl) := Lib.hid HF.out.2.1
          have zB0 : B ≤ wr.drew.heap.size := by have := HB0.out.size; have := HBE.out; omega
          have hs0 : (convert 23 9 (.slice (some ⟨Q, 0, none⟩) n0 cap)).run Try.prog wr.drew = .ok (.string s) wr.drew ∧ (convert 23 9 (.slice a0 n0 c0)).run Try.prog wr.drew = .ok (.string t) wr.drew := ⟨by rw [← HX.out.1]; exact convert_txt HT0.out, by rw [← HX.out.2.1]; exact convert_txt (H0.out.below HB0.out (fun _ _ h => h))⟩
          clear HF
          refine wp_region_held_drew (S := fun v => (convert 23 9 (.slice (some ⟨Q, 0, none⟩) n0 cap)).run Try.prog v = .ok (.string s) v ∧ (convert 23 9 (.slice a0 n0 c0)).run Try.prog v = .ok (.string t) v) (by kernel_rfl) hs0 (fun hHeld => ?_)
          clear hs0
          generalize wr.drew = v0 at *
          refine wpAnyH_take (i := 0) (v := .bool true) rfl (by kernel_rfl) (by kernel_rfl) (by kernel_rfl) (fun _ _ _ h => h) (Or.inl ⟨by rfl, (by intro w hSw; (try dsimp only at hSw); go_simp)⟩) (by assumption) ?_
          try simp only [Act.put, List.getElem_toArray, List.getElem_cons_zero, List.getElem_cons_succ, List.setIfInBounds_toArray, List.set_cons_zero, List.set_cons_succ]
          refine wpAnyH_take (i := 1) (v := .bool true) rfl (by kernel_rfl) (by kernel_rfl) (by kernel_rfl) (fun _ _ _ h => h) (Or.inl ⟨by rfl, (by intro w hSw; (try dsimp only at hSw); go_simp)⟩) (by assumption) ?_
          try simp only [Act.put, List.getElem_toArray, List.getElem_cons_zero, List.getElem_cons_succ, List.setIfInBounds_toArray, List.set_cons_zero, List.set_cons_succ]
          refine wpAnyH_take (i := 2) (v := .slice (some ⟨Q, 0, none⟩) n0 cap) rfl (by kernel_rfl) (by kernel_rfl) (by kernel_rfl) (fun _ _ _ h => h) (Or.inl ⟨by rfl, (by intro w hSw; (try dsimp only at hSw); go_simp)⟩) (by assumption) ?_
          try simp only [Act.put, List.getElem_toArray, List.getElem_cons_zero, List.getElem_cons_succ, List.setIfInBounds_toArray, List.set_cons_zero, List.set_cons_succ]
          refine wpAnyH_take (i := 4) (v := .slice a0 n0 c0) rfl (by kernel_rfl) (by kernel_rfl) (by kernel_rfl) (fun _ _ _ h => h) (Or.inl ⟨by rfl, (by intro w hSw; (try dsimp only at hSw); go_simp)⟩) (by assumption) ?_
          try simp only [Act.put, List.getElem_toArray, List.getElem_cons_zero, List.getElem_cons_succ, List.setIfInBounds_toArray, List.set_cons_zero, List.set_cons_succ]
          refine wpAnyH_take (i := 7) (v := .slice (some ⟨Q, 0, none⟩) n0 cap) rfl (by kernel_rfl) (by kernel_rfl) (by kernel_rfl) (fun _ _ _ h => h) (Or.inl ⟨by rfl, (by intro w hSw; (try dsimp only at hSw); go_simp)⟩) (by assumption) ?_
          try simp only [Act.put, List.getElem_toArray, List.getElem_cons_zero, List.getElem_cons_succ, List.setIfInBounds_toArray, List.set_cons_zero, List.set_cons_succ]
          refine wpAnyH_take (i := 8) (v := .string s) rfl (by kernel_rfl) (by kernel_rfl) (by kernel_rfl) (fun _ _ _ h => h) (Or.inl ⟨by rfl, (by intro w hSw; (try dsimp only at hSw); go_simp)⟩) (by assumption) ?_
          try simp only [Act.put, List.getElem_toArray, List.getElem_cons_zero, List.getElem_cons_succ, List.setIfInBounds_toArray, List.set_cons_zero, List.set_cons_succ]
          refine wpAnyH_take (i := 9) (v := .slice a0 n0 c0) rfl (by kernel_rfl) (by kernel_rfl) (by kernel_rfl) (fun _ _ _ h => h) (Or.inl ⟨by rfl, (by intro w hSw; (try dsimp only at hSw); go_simp)⟩) (by assumption) ?_
          try simp only [Act.put, List.getElem_toArray, List.getElem_cons_zero, List.getElem_cons_succ, List.setIfInBounds_toArray, List.set_cons_zero, List.set_cons_succ]
          refine wpAnyH_take (i := 10) (v := .string t) rfl (by kernel_rfl) (by kernel_rfl) (by kernel_rfl) (fun _ _ _ h => h) (Or.inl ⟨by rfl, (by intro w hSw; (try dsimp only at hSw); go_simp)⟩) (by assumption) ?_
          try simp only [Act.put, List.getElem_toArray, List.getElem_cons_zero, List.getElem_cons_succ, List.setIfInBounds_toArray, List.set_cons_zero, List.set_cons_succ]
          refine wpAnyH_take (i := 11) (v := .bool p) rfl (by kernel_rfl) (by kernel_rfl) (by kernel_rfl) (fun _ _ _ h => h) (Or.inl ⟨by rfl, (by intro w hSw; (try dsimp only at hSw); go_simp)⟩) (by assumption) ?_
          try simp only [Act.put, List.getElem_toArray, List.getElem_cons_zero, List.getElem_cons_succ, List.setIfInBounds_toArray, List.set_cons_zero, List.set_cons_succ]
          refine wpAnyH_ready (rs := [3]) (by kernel_rfl) (by simp) (AllReadyH.cons rfl (fun K hK => ?_) AllReadyH.nil)
          try simp only [List.getElem_toArray, List.getElem_cons_zero, List.getElem_cons_succ]
          go_simp
          go_at_call 12
          refine (sum_any HT0.out (by omega)).mono ?_
          rintro e v1 ⟨rfl, hb⟩
          rw [HX.out.2.2.1]
          have HB1 : Hid (Below B w v1) := Lib.hid (HB0.out.trans (hb.mono zB0))
          have HT1 : Hid (Txt v1 (fun _ => True) (some ⟨Q, 0, none⟩) n0 cap cl) := Lib.hid (HT0.out.below hb (fun _ h _ => h))
          have zB1 : B ≤ v1.heap.size := Nat.le_trans zB0 hb.size
          have hs1 : (convert 23 9 (.slice (some ⟨Q, 0, none⟩) n0 cap)).run Try.prog v1 = .ok (.string s) v1 ∧ (convert 23 9 (.slice a0 n0 c0)).run Try.prog v1 = .ok (.string t) v1 := ⟨by rw [← HX.out.1]; exact convert_txt HT1.out, by rw [← HX.out.2.1]; exact convert_txt (H0.out.below HB1.out (fun _ _ h => h))⟩
          clear hb
          go_wp2_with fail
          refine hK.out _ _ hs1 (fun hHeld => ?_)
          clear hK K hs1
          try simp only [Act.put, List.getElem_toArray, List.getElem_cons_zero, List.getElem_cons_succ, List.setIfInBounds_toArray, List.set_cons_zero, List.set_cons_succ]
          refine wpAnyH_ready (rs := [5]) (by kernel_rfl) (by simp) (AllReadyH.cons rfl (fun K hK => ?_) AllReadyH.nil)
          try simp only [List.getElem_toArray, List.getElem_cons_zero, List.getElem_cons_succ]
          go_simp
          go_at_call 12
          refine (sum_any (H0.out.below HB1.out (fun _ _ h => h)) (by omega)).mono ?_
          rintro e v2 ⟨rfl, hb⟩
          rw [HX.out.2.2.2]
          have HB2 : Hid (Below B w v2) := Lib.hid (HB1.out.trans (hb.mono zB1))
          have HT2 : Hid (Txt v2 (fun _ => True) (some ⟨Q, 0, none⟩) n0 cap cl) := Lib.hid (HT1.out.below hb (fun _ h _ => h))
          have hs2 : (convert 23 9 (.slice (some ⟨Q, 0, none⟩) n0 cap)).run Try.prog v2 = .ok (.string s) v2 ∧ (convert 23 9 (.slice a0 n0 c0)).run Try.prog v2 = .ok (.string t) v2 := ⟨by rw [← HX.out.1]; exact convert_txt HT2.out, by rw [← HX.out.2.1]; exact convert_txt (H0.out.below HB2.out (fun _ _ h => h))⟩
          clear hb
          go_wp2_with fail
          refine hK.out _ _ hs2 (fun hHeld => ?_)
          clear hK K hs2
          try simp only [Act.put, List.getElem_toArray, List.getElem_cons_zero, List.getElem_cons_succ, List.setIfInBounds_toArray, List.set_cons_zero, List.set_cons_succ]
          refine wpAnyH_take (i := 6) (v := .bool p) rfl (by kernel_rfl) (by kernel_rfl) (by kernel_rfl) (fun _ _ _ h => h) (Or.inl ⟨by rfl, (by intro w hSw; (try dsimp only at hSw); go_simp)⟩) (by assumption) ?_
          try simp only [Act.put, List.getElem_toArray, List.getElem_cons_zero, List.getElem_cons_succ, List.setIfInBounds_toArray, List.set_cons_zero, List.set_cons_succ]
          refine wpAnyH_take (i := 12) (v := .bool true) rfl (by kernel_rfl) (by kernel_rfl) (by kernel_rfl) (fun _ _ _ h => h) (Or.inl ⟨by rfl, (by intro w hSw; (try dsimp only at hSw); go_simp)⟩) (by assumption) ?_
          try simp only [Act.put, List.getElem_toArray, List.getElem_cons_zero, List.getElem_cons_succ, List.setIfInBounds_toArray, List.set_cons_zero, List.set_cons_succ]
          refine wpAnyH_take (i := 13) (v := .bool true) rfl (by kernel_rfl) (by kernel_rfl) (by kernel_rfl) (fun _ _ _ h => h) (Or.inl ⟨by rfl, (by intro w hSw; (try dsimp only at hSw); go_simp)⟩) (by assumption) ?_
          try simp only [Act.put, List.getElem_toArray, List.getElem_cons_zero, List.getElem_cons_succ, List.setIfInBounds_toArray, List.set_cons_zero, List.set_cons_succ]
          refine wpAnyH_take (i := 14) (v := .bool true) rfl (by kernel_rfl) (by kernel_rfl) (by kernel_rfl) (fun _ _ _ h => h) (Or.inl ⟨by rfl, (by intro w hSw; (try dsimp only at hSw); go_simp)⟩) (by assumption) ?_
          try simp only [Act.put, List.getElem_toArray, List.getElem_cons_zero, List.getElem_cons_succ, List.setIfInBounds_toArray, List.set_cons_zero, List.set_cons_succ]
          refine wpAnyH_done (by kernel_rfl) ?_ _
          go_wp2
          go_ret
          exact ⟨rfl, by rw [HBE.out]; exact HB2.out⟩
      · have t1 : decide ((k : Int) < 4) = false := by simp; omega
        have HF := Lib.hid (And.intro HL.out.2.2.2.2.2.2 (And.intro (show Hid (Txt wr (fun _ => True) (some ⟨Q, 0, none⟩) n0 cap cl) from Lib.hid (by
          obtain ⟨a, c, e, ht⟩ := Txt.own HL.out.2.2.2.2.1 HL.out.2.1
          injection e with e1 _ e3
          subst e1 e3
          exact ht.weak fun _ _ _ => trivial)).out (Cm.turns H0.out.2.2.1 HL.out.2.1 (by rw [HL.out.1, H0.out.1]) A HL.out.2.2.1 HL.out.2.2.2.1)))
        have HCB := Lib.hid HL.out.2.1
        clear HL
        obtain ⟨p, s, t, eC, eB, HX, hp1, hp2⟩ : ∃ (p : Bool) (s t : ByteArray) (eC eB : BitVec 32), Hid (strOfNums cl = s ∧ strOfNums l0 = t ∧ Cm.more 0#32 cl = eC ∧ Cm.more 0#32 l0 = eB) ∧ (num eC == num eB) = p ∧ (s.toList == t.toList) = p := by
          refine ⟨decide (cl = l0), _, _, _, _, Lib.hid ⟨rfl, rfl, rfl, rfl⟩, ?_, ?_⟩
          · rw [num_beq]; exact beq_decide HF.out.2.2
          · exact beq_decide ⟨fun h => strOf_inj (str_toList h) HCB.out H0.out.2.2.1, fun h => by rw [h]⟩
        clear HCB
        go_wp2_with fail
        have HB0 : Hid (Below B w wr.drew) := Lib.hid HF.out.1.drew
        have HT0 : Hid (Txt wr.drew (fun _ => True) (some ⟨Q, 0, none⟩) n0 cap cl) := Lib.hid HF.out.2.1
        have zB0 : B ≤ wr.drew.heap.size := by have := HB0.out.size; have := HBE.out; omega
        have hs0 : (convert 23 9 (.slice (some ⟨Q, 0, none⟩) n0 cap)).run Try.prog wr.drew = .ok (.string s) wr.drew ∧ (convert 23 9 (.slice a0 n0 c0)).run Try.prog wr.drew = .ok (.string t) wr.drew := ⟨by rw [← HX.out.1]; exact convert_txt HT0.out, by rw [← HX.out.2.1]; exact convert_txt (H0.out.below HB0.out (fun _ _ h => h))⟩
        clear HF
        refine wp_region_held_drew (S := fun v => (convert 23 9 (.slice (some ⟨Q, 0, none⟩) n0 cap)).run Try.prog v = .ok (.string s) v ∧ (convert 23 9 (.slice a0 n0 c0)).run Try.prog v = .ok (.string t) v) (by kernel_rfl) hs0 (fun hHeld => ?_)
        clear hs0
        generalize wr.drew = v0 at *
        refine wpAnyH_take (i := 0) (v := .bool true) rfl (by kernel_rfl) (by kernel_rfl) (by kernel_rfl) (fun _ _ _ h => h) (Or.inl ⟨by rfl, (by intro w hSw; (try dsimp only at hSw); go_simp)⟩) (by assumption) ?_
        try simp only [Act.put, List.getElem_toArray, List.getElem_cons_zero, List.getElem_cons_succ, List.setIfInBounds_toArray, List.set_cons_zero, List.set_cons_succ]
        refine wpAnyH_take (i := 1) (v := .bool true) rfl (by kernel_rfl) (by kernel_rfl) (by kernel_rfl) (fun _ _ _ h => h) (Or.inl ⟨by rfl, (by intro w hSw; (try dsimp only at hSw); go_simp)⟩) (by assumption) ?_
        try simp only [Act.put, List.getElem_toArray, List.getElem_cons_zero, List.getElem_cons_succ, List.setIfInBounds_toArray, List.set_cons_zero, List.set_cons_succ]
        refine wpAnyH_take (i := 2) (v := .slice (some ⟨Q, 0, none⟩) n0 cap) rfl (by kernel_rfl) (by kernel_rfl) (by kernel_rfl) (fun _ _ _ h => h) (Or.inl ⟨by rfl, (by intro w hSw; (try dsimp only at hSw); go_simp)⟩) (by assumption) ?_
        try simp only [Act.put, List.getElem_toArray, List.getElem_cons_zero, List.getElem_cons_succ, List.setIfInBounds_toArray, List.set_cons_zero, List.set_cons_succ]
        refine wpAnyH_take (i := 4) (v := .slice a0 n0 c0) rfl (by kernel_rfl) (by kernel_rfl) (by kernel_rfl) (fun _ _ _ h => h) (Or.inl ⟨by rfl, (by intro w hSw; (try dsimp only at hSw); go_simp)⟩) (by assumption) ?_
        try simp only [Act.put, List.getElem_toArray, List.getElem_cons_zero, List.getElem_cons_succ, List.setIfInBounds_toArray, List.set_cons_zero, List.set_cons_succ]
        refine wpAnyH_take (i := 7) (v := .slice (some ⟨Q, 0, none⟩) n0 cap) rfl (by kernel_rfl) (by kernel_rfl) (by kernel_rfl) (fun _ _ _ h => h) (Or.inl ⟨by rfl, (by intro w hSw; (try dsimp only at hSw); go_simp)⟩) (by assumption) ?_
        try simp only [Act.put, List.getElem_toArray, List.getElem_cons_zero, List.getElem_cons_succ, List.setIfInBounds_toArray, List.set_cons_zero, List.set_cons_succ]
        refine wpAnyH_take (i := 8) (v := .string s) rfl (by kernel_rfl) (by kernel_rfl) (by kernel_rfl) (fun _ _ _ h => h) (Or.inl ⟨by rfl, (by intro w hSw; (try dsimp only at hSw); go_simp)⟩) (by assumption) ?_
        try simp only [Act.put, List.getElem_toArray, List.getElem_cons_zero, List.getElem_cons_succ, List.setIfInBounds_toArray, List.set_cons_zero, List.set_cons_succ]
        refine wpAnyH_take (i := 9) (v := .slice a0 n0 c0) rfl (by kernel_rfl) (by kernel_rfl) (by kernel_rfl) (fun _ _ _ h => h) (Or.inl ⟨by rfl, (by intro w hSw; (try dsimp only at hSw); go_simp)⟩) (by assumption) ?_
        try simp only [Act.put, List.getElem_toArray, List.getElem_cons_zero, List.getElem_cons_succ, List.setIfInBounds_toArray, List.set_cons_zero, List.set_cons_succ]
        refine wpAnyH_take (i := 10) (v := .string t) rfl (by kernel_rfl) (by kernel_rfl) (by kernel_rfl) (fun _ _ _ h => h) (Or.inl ⟨by rfl, (by intro w hSw; (try dsimp only at hSw); go_simp)⟩) (by assumption) ?_
        try simp only [Act.put, List.getElem_toArray, List.getElem_cons_zero, List.getElem_cons_succ, List.setIfInBounds_toArray, List.set_cons_zero, List.set_cons_succ]
        refine wpAnyH_take (i := 11) (v := .bool p) rfl (by kernel_rfl) (by kernel_rfl) (by kernel_rfl) (fun _ _ _ h => h) (Or.inl ⟨by rfl, (by intro w hSw; (try dsimp only at hSw); go_simp)⟩) (by assumption) ?_
        try simp only [Act.put, List.getElem_toArray, List.getElem_cons_zero, List.getElem_cons_succ, List.setIfInBounds_toArray, List.set_cons_zero, List.set_cons_succ]
        refine wpAnyH_ready (rs := [3]) (by kernel_rfl) (by simp) (AllReadyH.cons rfl (fun K hK => ?_) AllReadyH.nil)
        try simp only [List.getElem_toArray, List.getElem_cons_zero, List.getElem_cons_succ]
        go_simp
        go_at_call 12
        refine (sum_any HT0.out (by omega)).mono ?_
        rintro e v1 ⟨rfl, hb⟩
        rw [HX.out.2.2.1]
        have HB1 : Hid (Below B w v1) := Lib.hid (HB0.out.trans (hb.mono zB0))
        have HT1 : Hid (Txt v1 (fun _ => True) (some ⟨Q, 0, none⟩) n0 cap cl) := Lib.hid (HT0.out.below hb (fun _ h _ => h))
        have zB1 : B ≤ v1.heap.size := Nat.le_trans zB0 hb.size
        have hs1 : (convert 23 9 (.slice (some ⟨Q, 0, none⟩) n0 cap)).run Try.prog v1 = .ok (.string s) v1 ∧ (convert 23 9 (.slice a0 n0 c0)).run Try.prog v1 = .ok (.string t) v1 := ⟨by rw [← HX.out.1]; exact convert_txt HT1.out, by rw [← HX.out.2.1]; exact convert_txt (H0.out.below HB1.out (fun _ _ h => h))⟩
        clear hb
        go_wp2_with fail
        refine hK.out _ _ hs1 (fun hHeld => ?_)
        clear hK K hs1
        try simp only [Act.put, List.getElem_toArray, List.getElem_cons_zero, List.getElem_cons_succ, List.setIfInBounds_toArray, List.set_cons_zero, List.set_cons_succ]
        refine wpAnyH_ready (rs := [5]) (by kernel_rfl) (by simp) (AllReadyH.cons rfl (fun K hK => ?_) AllReadyH.nil)
        try simp only [List.getElem_toArray, List.getElem_cons_zero, List.getElem_cons_succ]
        go_simp
        go_at_call 12
        refine (sum_any (H0.out.below HB1.out (fun _ _ h => h)) (by omega)).mono ?_
        rintro e v2 ⟨rfl, hb⟩
        rw [HX.out.2.2.2]
        have HB2 : Hid (Below B w v2) := Lib.hid (HB1.out.trans (hb.mono zB1))
        have HT2 : Hid (Txt v2 (fun _ => True) (some ⟨Q, 0, none⟩) n0 cap cl) := Lib.hid (HT1.out.below hb (fun _ h _ => h))
        have hs2 : (convert 23 9 (.slice (some ⟨Q, 0, none⟩) n0 cap)).run Try.prog v2 = .ok (.string s) v2 ∧ (convert 23 9 (.slice a0 n0 c0)).run Try.prog v2 = .ok (.string t) v2 := ⟨by rw [← HX.out.1]; exact convert_txt HT2.out, by rw [← HX.out.2.1]; exact convert_txt (H0.out.below HB2.out (fun _ _ h => h))⟩
        clear hb
        go_wp2_with fail
        refine hK.out _ _ hs2 (fun hHeld => ?_)
        clear hK K hs2
        try simp only [Act.put, List.getElem_toArray, List.getElem_cons_zero, List.getElem_cons_succ, List.setIfInBounds_toArray, List.set_cons_zero, List.set_cons_succ]
        refine wpAnyH_take (i := 6) (v := .bool p) rfl (by kernel_rfl) (by kernel_rfl) (by kernel_rfl) (fun _ _ _ h => h) (Or.inl ⟨by rfl, (by intro w hSw; (try dsimp only at hSw); go_simp)⟩) (by assumption) ?_
        try simp only [Act.put, List.getElem_toArray, List.getElem_cons_zero, List.getElem_cons_succ, List.setIfInBounds_toArray, List.set_cons_zero, List.set_cons_succ]
        refine wpAnyH_take (i := 12) (v := .bool true) rfl (by kernel_rfl) (by kernel_rfl) (by kernel_rfl) (fun _ _ _ h => h) (Or.inl ⟨by rfl, (by intro w hSw; (try dsimp only at hSw); go_simp)⟩) (by assumption) ?_
        try simp only [Act.put, List.getElem_toArray, List.getElem_cons_zero, List.getElem_cons_succ, List.setIfInBounds_toArray, List.set_cons_zero, List.set_cons_succ]
        refine wpAnyH_take (i := 13) (v := .bool true) rfl (by kernel_rfl) (by kernel_rfl) (by kernel_rfl) (fun _ _ _ h => h) (Or.inl ⟨by rfl, (by intro w hSw; (try dsimp only at hSw); go_simp)⟩) (by assumption) ?_
        try simp only [Act.put, List.getElem_toArray, List.getElem_cons_zero, List.getElem_cons_succ, List.setIfInBounds_toArray, List.set_cons_zero, List.set_cons_succ]
        refine wpAnyH_take (i := 14) (v := .bool true) rfl (by kernel_rfl) (by kernel_rfl) (by kernel_rfl) (fun _ _ _ h => h) (Or.inl ⟨by rfl, (by intro w hSw; (try dsimp only at hSw); go_simp)⟩) (by assumption) ?_
        try simp only [Act.put, List.getElem_toArray, List.getElem_cons_zero, List.getElem_cons_succ, List.setIfInBounds_toArray, List.set_cons_zero, List.set_cons_succ]
        refine wpAnyH_done (by kernel_rfl) ?_ _
        go_wp2
        go_ret
        exact ⟨rfl, by rw [HBE.out]; exact HB2.out⟩
end Go.Proofs.Ytiagblmnmknnfaa
