/-
  The walk of the document's Get.
-/
import Derived.Test.YtkmkccdihoaefaaGm
import Derived.Test.YtkmkccdihoaefaaBv
import Derived.IntWalk
set_option linter.unusedSimpArgs false
namespace Go.Proofs.Ytkmkccdihoaefaa
open Go.RowKit
theorem slice_to {a : Option Addr} {n c k : Nat} (h1 : k ≤ c) (w : World) : (Instr.slice 25 (.slice a n c) none (some (.int .i64 (k : Int))) none).run Try.prog w = .ok (.slice a k c) w := by
  have hb : (0 : Int) ≤ (k : Int) ∧ (k : Int) ≤ (c : Int) := by omega
  have e : (if c = 0 then a else Option.map (fun x => x.add (0 * 1)) a) = a := by
    split
    · rfl
    · cases a <;> simp [Addr.add]
  have hz : (sizeOf 5).run Try.prog w = .ok 1 w := by
    obtain ⟨i, h1, _, h2, _⟩ := info_parts u8_info
    simp [sizeOf, typeInfo, h1, h2]
  simp only [Instr.slice, Instr.sliceBounds, Instr.sliceBound, Sem.run_bind, Sem.run_pure, Result.andThen_ok, run_underlying Try.underlying25, asIntOf, if_pos hb, hz, Int.toNat_natCast, e, Nat.sub_zero]
def GotN (w : World) (o : Int × Nat) (e : Ending) (w' : World) : Prop := e = .returned (.tuple #[.int .i64 o.1, .int .i64 (o.2 : Int)]) ∧ Below w.heap.size w w'
theorem got_none {w : World} {o : Int × Nat} (h : o = (0, 0)) : GotN w o (.returned (.tuple #[.int .i64 0, .int .i64 0])) w := by
  subst h; exact ⟨rfl, Below.refl _ _⟩
set_option maxHeartbeats 2000000 in
theorem get_ref {S : Nat → Prop} {a : Option Addr} {n c : Nat} {l : List Int} {w : World} (h : Txt w S a n c l) (hn : n ≤ 1000000) :
    Calls Try.prog 31 #[.slice a n c] w (GotN w (Cd.getN l)) := by
  have H := Lib.hid h.old
  have HLN := Lib.hid h.1
  have HB := Lib.hid h.2.2.1
  clear h
  go_enter Try.func31, Try.ntmps31
  go_wp2
  go_loopw [4, 5] (fun v i wr => ∃ k : Nat, k ≤ n ∧ k ≤ 10 ∧ i = .int .i64 k ∧ v = .int .u64 (Cd.acc (l.take k)) ∧ Hid (Cd.High l k ∧ Cd.acc (l.take k) < 18446744073709551616) ∧ wr = w) (fun _ i _ => 10 - (intOf i).toNat)
  case atStart => exact ⟨0, by omega, by omega, rfl, rfl, Lib.hid ⟨fun j hj => by omega, by show (0 : Int) < _; omega⟩, rfl⟩
  case round =>
    obtain ⟨k, hkn, hk10, rfl, rfl, HK, rfl⟩ := hrel
    by_cases hlt : k < n
    · by_cases hlt10 : k < 10
      · have hu0 := Cd.acc_nonneg (l.take k)
        have hd1 : decide ((k : Int) < 10) = true := by simp; omega
        have hd2 : decide (k < n) = true := by simp; omega
        by_cases hbig : 144115188075855872 ≤ Cd.acc (l.take k)
        · have HN := Lib.hid (Cd.getN_none (Cd.parse_big HB.out HK.out.1 hbig))
          have hu1 : Cd.acc (l.take k) ≤ 18446744073709551615 := by have := HK.out.2; omega
          generalize Cd.acc (l.take k) = u at *
          go_wp2
          go_ret2
          exact got_none HN.out
        · obtain ⟨b, off, rfl, _, hblt, c0⟩ := H.out.cell hlt
          have hby := H.out.byte hlt
          have hal := Cd.acc_lt (l := l) (i := k) (by rw [HLN.out]; exact hlt) (by omega)
          obtain ⟨u, hu⟩ : ∃ u, Cd.acc (l.take k) = u := ⟨_, rfl⟩
          obtain ⟨x, hxe⟩ : ∃ x, l.getD k 0 = x := ⟨_, rfl⟩
          rw [hu, hxe] at hal
          rw [hu] at hu0 hbig ⊢
          rw [hxe] at c0 hby
          have HX := Lib.hid hxe
          obtain ⟨v, hv⟩ : ∃ v, u * 128 + x % 128 = v := ⟨_, rfl⟩
          rw [hv] at hal
          have hv0 : 0 ≤ v := by omega
          have hv1 : v ≤ 18446744073709551615 := by rw [hal.1] at hal; omega
          have HV : Hid (Cd.acc (l.take (k + 1)) = v ∧ v < 18446744073709551616) := Lib.hid ⟨hal.1, by omega⟩
          have hu1 : u < 144115188075855872 := by omega
          obtain ⟨hx0, hx1⟩ := hby
          have hm1 : IntKind.u64.wrap (u * 128) = u * 128 := by rw [IntKind.wrap_u64]; omega
          have hm2 : IntKind.u64.wrap (u * 128 + x % 128) = v := by rw [IntKind.wrap_u64, hv]; omega
          have hl1 : (l.take (k + 1)).length = k + 1 := by rw [List.length_take, HLN.out]; omega
          clear hu hxe hal hl1
          by_cases hx : x < 128
          · by_cases hpar : v % 2 = 1
            · have e1 : (v % 2 == 1) = true := by rw [beq_iff_eq]; exact hpar
              have hm := Cd.unfold_range (u := v.toNat) (by omega)
              have HGH := Lib.hid (Cd.getN_here HB.out (by rw [HLN.out]; exact hlt) HK.out.1 (by rw [HX.out]; exact hx) (by rw [HV.out.1]; exact HV.out.2))
              have HU : Hid (Cd.unfold v.toNat = -(v / 2) - 1) := Lib.hid (by unfold Cd.unfold; rw [if_pos (by omega)]; omega)
              have hcv := convert_txt (H.out.take (k + 1) (by omega))
              have hsl : ∀ w, (Instr.slice 25 (.slice (some ⟨b, off, none⟩) n c) none (some (.int .i64 ((k : Int) + 1))) none).run Try.prog w = .ok (.slice (some ⟨b, off, none⟩) (k + 1) c) w := fun w => slice_to (k := k + 1) (by have := H.out.2.1; omega) w
              have esum : IntKind.i64.wrap ((k : Int) + 1) = (k : Int) + 1 := IntWalk.i64_in _ (by omega)
              obtain ⟨s, hs⟩ : ∃ s, strOfNums (l.take (k + 1)) = s := ⟨_, rfl⟩
              rw [hs] at hcv
              have HSS := Lib.hid hs
              have HCV := Lib.hid hcv
              clear hs hcv
              go_wp2
              obtain ⟨m, hme⟩ : ∃ m, Cd.unfold v.toNat = m := ⟨_, rfl⟩
              rw [hme] at hm
              rw [HU.out] at hme
              rw [hme]
              have HME : Hid (Cd.unfold v.toNat = m) := Lib.hid (by rw [HU.out, hme])
              have hcd : (convert 25 9 (.slice (some ⟨b, off, none⟩) (k + 1) c)).run Try.prog wr.drew = .ok (.string s) wr.drew := by
                have := convert_txt (w := wr.drew) (S := fun _ => True) ((H.out.take (k + 1) (by omega)).keep (w' := wr.drew) (Nat.le_refl _) (fun _ _ _ => rfl) |>.weak (fun _ _ _ => trivial))
                rwa [HSS.out] at this
              have HTD : Hid (Txt wr.drew (fun b => b < wr.heap.size) (some ⟨b, off, none⟩) (k + 1) c (l.take (k + 1))) := Lib.hid ((H.out.take (k + 1) (by omega)).keep (w' := wr.drew) (Nat.le_refl _) (fun _ _ _ => rfl))
              have HBD : Hid (Below wr.heap.size wr wr.drew) := Lib.hid (Below.refl _ _).drew
              clear hme
              refine wp_region_held_drew (S := fun w' => (convert 25 9 (.slice (some ⟨b, off, none⟩) (k + 1) c)).run Try.prog w' = .ok (.string s) w') (by kernel_rfl) hcd (fun hHeld => ?_)
              generalize wr.drew = wd at *
              refine wpAnyH_take (i := 0) (v := .int .i64 m) rfl (by kernel_rfl) (by kernel_rfl) (by kernel_rfl) (fun _ _ _ h => h) (Or.inl ⟨by rfl, (by intro w hSw; (try dsimp only at hSw); go_simp)⟩) (by assumption) ?_
              try simp only [Act.put, List.getElem_toArray, List.getElem_cons_zero, List.getElem_cons_succ, List.setIfInBounds_toArray, List.set_cons_zero, List.set_cons_succ]
              refine wpAnyH_take (i := 3) (v := .slice (some ⟨b, off, none⟩) n c) rfl (by kernel_rfl) (by kernel_rfl) (by kernel_rfl) (fun _ _ _ h => h) (Or.inl ⟨by rfl, (by intro w hSw; (try dsimp only at hSw); go_simp)⟩) (by assumption) ?_
              try simp only [Act.put, List.getElem_toArray, List.getElem_cons_zero, List.getElem_cons_succ, List.setIfInBounds_toArray, List.set_cons_zero, List.set_cons_succ]
              refine wpAnyH_take (i := 4) (v := .int .i64 (k : Int)) rfl (by kernel_rfl) (by kernel_rfl) (by kernel_rfl) (fun _ _ _ h => h) (Or.inl ⟨by rfl, (by intro w hSw; (try dsimp only at hSw); go_simp)⟩) (by assumption) ?_
              try simp only [Act.put, List.getElem_toArray, List.getElem_cons_zero, List.getElem_cons_succ, List.setIfInBounds_toArray, List.set_cons_zero, List.set_cons_succ]
              refine wpAnyH_take (i := 5) (v := .int .i64 ((k : Int) + 1)) rfl (by kernel_rfl) (by kernel_rfl) (by kernel_rfl) (fun _ _ _ h => h) (Or.inl ⟨by rfl, (by intro w hSw; (try dsimp only at hSw); go_simp)⟩) (by assumption) ?_
              try simp only [Act.put, List.getElem_toArray, List.getElem_cons_zero, List.getElem_cons_succ, List.setIfInBounds_toArray, List.set_cons_zero, List.set_cons_succ]
              refine wpAnyH_take (i := 6) (v := .slice (some ⟨b, off, none⟩) (k + 1) c) rfl (by kernel_rfl) (by kernel_rfl) (by kernel_rfl) (fun _ _ _ h => h) (Or.inl ⟨by rfl, (by intro w hSw; (try dsimp only at hSw); go_simp)⟩) (by assumption) ?_
              try simp only [Act.put, List.getElem_toArray, List.getElem_cons_zero, List.getElem_cons_succ, List.setIfInBounds_toArray, List.set_cons_zero, List.set_cons_succ]
              refine wpAnyH_take (i := 7) (v := .string s) rfl (by kernel_rfl) (by kernel_rfl) (by kernel_rfl) (fun _ _ _ h => h) (Or.inl ⟨by rfl, (by intro w hSw; (try dsimp only at hSw); go_simp)⟩) (by assumption) ?_
              try simp only [Act.put, List.getElem_toArray, List.getElem_cons_zero, List.getElem_cons_succ, List.setIfInBounds_toArray, List.set_cons_zero, List.set_cons_succ]
              refine wpAnyH_ready (rs := [1]) (by kernel_rfl) (by simp) (AllReadyH.cons rfl (fun K hK => ?_) AllReadyH.nil)
              try simp only [List.getElem_toArray, List.getElem_cons_zero, List.getElem_cons_succ]
              go_simp
              go_at_call 13
              refine (rint_ref m wd hm.1 hm.2).mono ?_
              rintro e w3 ⟨v3, rfl, hown, hbl⟩
              obtain ⟨a3, c3, rfl, htx⟩ := own_slice hown (Cd.byt_num m)
              have hcv3 := convert_txt htx
              have hcb := convert_txt (HTD.out.below hbl (fun _ h _ => h))
              rw [HSS.out] at hcb
              have HB3 : Hid (Below wr.heap.size wr w3) := Lib.hid (HBD.out.trans (hbl.mono HBD.out.size))
              have HBY3 : Hid (Cd.Byt (Cd.num m)) := Lib.hid (Cd.byt_num m)
              generalize (Cd.num m).length = nl at *
              obtain ⟨s3, hs3⟩ : ∃ s3, strOfNums (Cd.num m) = s3 := ⟨_, rfl⟩
              rw [hs3] at hcv3
              have HS3 := Lib.hid hs3
              clear hown hbl htx hs3
              go_wp2_with fail
              refine hK.out _ _ hcb (fun hHeld => ?_)
              clear hK K
              try simp only [Act.put, List.getElem_toArray, List.getElem_cons_zero, List.getElem_cons_succ, List.setIfInBounds_toArray, List.set_cons_zero, List.set_cons_succ]
              refine wpAnyH_ready (rs := [2]) (by kernel_rfl) (by simp) (AllReadyH.cons rfl (fun K hK => ?_) AllReadyH.nil)
              try simp only [List.getElem_toArray, List.getElem_cons_zero, List.getElem_cons_succ]
              go_simp
              refine hK.out _ _ hcb (fun hHeld => ?_)
              clear hK K
              try simp only [Act.put, List.getElem_toArray, List.getElem_cons_zero, List.getElem_cons_succ, List.setIfInBounds_toArray, List.set_cons_zero, List.set_cons_succ]
              by_cases hse : Cd.num m = l.take (k + 1)
              · have hs33 : s3 = s := by rw [← HS3.out, ← HSS.out, hse]
                subst hs33
                have HGE : Hid (Cd.getN l = (m, k + 1)) := Lib.hid (by have := HGH.out; rw [HV.out.1, HME.out, if_pos hse] at this; exact this)
                clear hse
                refine wpAnyH_take (i := 8) (v := .bool false) rfl (by kernel_rfl) (by kernel_rfl) (by kernel_rfl) (fun _ _ _ h => h) (Or.inl ⟨by rfl, (by intro w hSw; (try dsimp only at hSw); go_simp)⟩) (by assumption) ?_
                try simp only [Act.put, List.getElem_toArray, List.getElem_cons_zero, List.getElem_cons_succ, List.setIfInBounds_toArray, List.set_cons_zero, List.set_cons_succ]
                refine wpAnyH_done (by kernel_rfl) ?_ _
                go_wp2
                go_ret2
                exact ⟨by rw [HGE.out]; rfl, HB3.out⟩
              · have hs33 : s3 ≠ s := by
                  intro e
                  rw [← HS3.out, ← HSS.out] at e
                  exact hse (strOf_inj e HBY3.out (Cd.byt_take HB.out _))
                have HGE : Hid (Cd.getN l = (0, 0)) := Lib.hid (by have := HGH.out; rw [HV.out.1, HME.out, if_neg hse] at this; exact this)
                have hne : ¬ s3.toList = s.toList := fun e => hs33 (by rw [← HS3.out, ← HSS.out] at e ⊢; exact str_toList e)
                clear hse hs33
                refine wpAnyH_take (i := 8) (v := .bool true) rfl (by kernel_rfl) (by kernel_rfl) (by kernel_rfl) (fun _ _ _ h => h) (Or.inl ⟨by rfl, (by intro w hSw; (try dsimp only at hSw); go_simp)⟩) (by assumption) ?_
                try simp only [Act.put, List.getElem_toArray, List.getElem_cons_zero, List.getElem_cons_succ, List.setIfInBounds_toArray, List.set_cons_zero, List.set_cons_succ]
                refine wpAnyH_done (by kernel_rfl) ?_ _
                go_wp2
                go_ret2
                exact ⟨by rw [HGE.out]; rfl, HB3.out⟩
            · have e1 : (v % 2 == 1) = false := by rw [beq_eq_false_iff_ne]; exact hpar
              have hm := Cd.unfold_range (u := v.toNat) (by omega)
              have HGH := Lib.hid (Cd.getN_here HB.out (by rw [HLN.out]; exact hlt) HK.out.1 (by rw [HX.out]; exact hx) (by rw [HV.out.1]; exact HV.out.2))
              have HU : Hid (Cd.unfold v.toNat = v / 2) := Lib.hid (by unfold Cd.unfold; rw [if_neg (by omega)]; omega)
              have hcv := convert_txt (H.out.take (k + 1) (by omega))
              have hsl : ∀ w, (Instr.slice 25 (.slice (some ⟨b, off, none⟩) n c) none (some (.int .i64 ((k : Int) + 1))) none).run Try.prog w = .ok (.slice (some ⟨b, off, none⟩) (k + 1) c) w := fun w => slice_to (k := k + 1) (by have := H.out.2.1; omega) w
              have esum : IntKind.i64.wrap ((k : Int) + 1) = (k : Int) + 1 := IntWalk.i64_in _ (by omega)
              obtain ⟨s, hs⟩ : ∃ s, strOfNums (l.take (k + 1)) = s := ⟨_, rfl⟩
              rw [hs] at hcv
              have HSS := Lib.hid hs
              have HCV := Lib.hid hcv
              clear hs hcv
              go_wp2
              obtain ⟨m, hme⟩ : ∃ m, Cd.unfold v.toNat = m := ⟨_, rfl⟩
              rw [hme] at hm
              rw [HU.out] at hme
              rw [hme]
              have HME : Hid (Cd.unfold v.toNat = m) := Lib.hid (by rw [HU.out, hme])
              have hcd : (convert 25 9 (.slice (some ⟨b, off, none⟩) (k + 1) c)).run Try.prog wr.drew = .ok (.string s) wr.drew := by
                have := convert_txt (w := wr.drew) (S := fun _ => True) ((H.out.take (k + 1) (by omega)).keep (w' := wr.drew) (Nat.le_refl _) (fun _ _ _ => rfl) |>.weak (fun _ _ _ => trivial))
                rwa [HSS.out] at this
              have HTD : Hid (Txt wr.drew (fun b => b < wr.heap.size) (some ⟨b, off, none⟩) (k + 1) c (l.take (k + 1))) := Lib.hid ((H.out.take (k + 1) (by omega)).keep (w' := wr.drew) (Nat.le_refl _) (fun _ _ _ => rfl))
              have HBD : Hid (Below wr.heap.size wr wr.drew) := Lib.hid (Below.refl _ _).drew
              clear hme
              refine wp_region_held_drew (S := fun w' => (convert 25 9 (.slice (some ⟨b, off, none⟩) (k + 1) c)).run Try.prog w' = .ok (.string s) w') (by kernel_rfl) hcd (fun hHeld => ?_)
              generalize wr.drew = wd at *
              refine wpAnyH_take (i := 0) (v := .int .i64 m) rfl (by kernel_rfl) (by kernel_rfl) (by kernel_rfl) (fun _ _ _ h => h) (Or.inl ⟨by rfl, (by intro w hSw; (try dsimp only at hSw); go_simp)⟩) (by assumption) ?_
              try simp only [Act.put, List.getElem_toArray, List.getElem_cons_zero, List.getElem_cons_succ, List.setIfInBounds_toArray, List.set_cons_zero, List.set_cons_succ]
              refine wpAnyH_take (i := 3) (v := .slice (some ⟨b, off, none⟩) n c) rfl (by kernel_rfl) (by kernel_rfl) (by kernel_rfl) (fun _ _ _ h => h) (Or.inl ⟨by rfl, (by intro w hSw; (try dsimp only at hSw); go_simp)⟩) (by assumption) ?_
              try simp only [Act.put, List.getElem_toArray, List.getElem_cons_zero, List.getElem_cons_succ, List.setIfInBounds_toArray, List.set_cons_zero, List.set_cons_succ]
              refine wpAnyH_take (i := 4) (v := .int .i64 (k : Int)) rfl (by kernel_rfl) (by kernel_rfl) (by kernel_rfl) (fun _ _ _ h => h) (Or.inl ⟨by rfl, (by intro w hSw; (try dsimp only at hSw); go_simp)⟩) (by assumption) ?_
              try simp only [Act.put, List.getElem_toArray, List.getElem_cons_zero, List.getElem_cons_succ, List.setIfInBounds_toArray, List.set_cons_zero, List.set_cons_succ]
              refine wpAnyH_take (i := 5) (v := .int .i64 ((k : Int) + 1)) rfl (by kernel_rfl) (by kernel_rfl) (by kernel_rfl) (fun _ _ _ h => h) (Or.inl ⟨by rfl, (by intro w hSw; (try dsimp only at hSw); go_simp)⟩) (by assumption) ?_
              try simp only [Act.put, List.getElem_toArray, List.getElem_cons_zero, List.getElem_cons_succ, List.setIfInBounds_toArray, List.set_cons_zero, List.set_cons_succ]
              refine wpAnyH_take (i := 6) (v := .slice (some ⟨b, off, none⟩) (k + 1) c) rfl (by kernel_rfl) (by kernel_rfl) (by kernel_rfl) (fun _ _ _ h => h) (Or.inl ⟨by rfl, (by intro w hSw; (try dsimp only at hSw); go_simp)⟩) (by assumption) ?_
              try simp only [Act.put, List.getElem_toArray, List.getElem_cons_zero, List.getElem_cons_succ, List.setIfInBounds_toArray, List.set_cons_zero, List.set_cons_succ]
              refine wpAnyH_take (i := 7) (v := .string s) rfl (by kernel_rfl) (by kernel_rfl) (by kernel_rfl) (fun _ _ _ h => h) (Or.inl ⟨by rfl, (by intro w hSw; (try dsimp only at hSw); go_simp)⟩) (by assumption) ?_
              try simp only [Act.put, List.getElem_toArray, List.getElem_cons_zero, List.getElem_cons_succ, List.setIfInBounds_toArray, List.set_cons_zero, List.set_cons_succ]
              refine wpAnyH_ready (rs := [1]) (by kernel_rfl) (by simp) (AllReadyH.cons rfl (fun K hK => ?_) AllReadyH.nil)
              try simp only [List.getElem_toArray, List.getElem_cons_zero, List.getElem_cons_succ]
              go_simp
              go_at_call 13
              refine (rint_ref m wd hm.1 hm.2).mono ?_
              rintro e w3 ⟨v3, rfl, hown, hbl⟩
              obtain ⟨a3, c3, rfl, htx⟩ := own_slice hown (Cd.byt_num m)
              have hcv3 := convert_txt htx
              have hcb := convert_txt (HTD.out.below hbl (fun _ h _ => h))
              rw [HSS.out] at hcb
              have HB3 : Hid (Below wr.heap.size wr w3) := Lib.hid (HBD.out.trans (hbl.mono HBD.out.size))
              have HBY3 : Hid (Cd.Byt (Cd.num m)) := Lib.hid (Cd.byt_num m)
              generalize (Cd.num m).length = nl at *
              obtain ⟨s3, hs3⟩ : ∃ s3, strOfNums (Cd.num m) = s3 := ⟨_, rfl⟩
              rw [hs3] at hcv3
              have HS3 := Lib.hid hs3
              clear hown hbl htx hs3
              go_wp2_with fail
              refine hK.out _ _ hcb (fun hHeld => ?_)
              clear hK K
              try simp only [Act.put, List.getElem_toArray, List.getElem_cons_zero, List.getElem_cons_succ, List.setIfInBounds_toArray, List.set_cons_zero, List.set_cons_succ]
              refine wpAnyH_ready (rs := [2]) (by kernel_rfl) (by simp) (AllReadyH.cons rfl (fun K hK => ?_) AllReadyH.nil)
              try simp only [List.getElem_toArray, List.getElem_cons_zero, List.getElem_cons_succ]
              go_simp
              refine hK.out _ _ hcb (fun hHeld => ?_)
              clear hK K
              try simp only [Act.put, List.getElem_toArray, List.getElem_cons_zero, List.getElem_cons_succ, List.setIfInBounds_toArray, List.set_cons_zero, List.set_cons_succ]
              by_cases hse : Cd.num m = l.take (k + 1)
              · have hs33 : s3 = s := by rw [← HS3.out, ← HSS.out, hse]
                subst hs33
                have HGE : Hid (Cd.getN l = (m, k + 1)) := Lib.hid (by have := HGH.out; rw [HV.out.1, HME.out, if_pos hse] at this; exact this)
                clear hse
                refine wpAnyH_take (i := 8) (v := .bool false) rfl (by kernel_rfl) (by kernel_rfl) (by kernel_rfl) (fun _ _ _ h => h) (Or.inl ⟨by rfl, (by intro w hSw; (try dsimp only at hSw); go_simp)⟩) (by assumption) ?_
                try simp only [Act.put, List.getElem_toArray, List.getElem_cons_zero, List.getElem_cons_succ, List.setIfInBounds_toArray, List.set_cons_zero, List.set_cons_succ]
                refine wpAnyH_done (by kernel_rfl) ?_ _
                go_wp2
                go_ret2
                exact ⟨by rw [HGE.out]; rfl, HB3.out⟩
              · have hs33 : s3 ≠ s := by
                  intro e
                  rw [← HS3.out, ← HSS.out] at e
                  exact hse (strOf_inj e HBY3.out (Cd.byt_take HB.out _))
                have HGE : Hid (Cd.getN l = (0, 0)) := Lib.hid (by have := HGH.out; rw [HV.out.1, HME.out, if_neg hse] at this; exact this)
                have hne : ¬ s3.toList = s.toList := fun e => hs33 (by rw [← HS3.out, ← HSS.out] at e ⊢; exact str_toList e)
                clear hse hs33
                refine wpAnyH_take (i := 8) (v := .bool true) rfl (by kernel_rfl) (by kernel_rfl) (by kernel_rfl) (fun _ _ _ h => h) (Or.inl ⟨by rfl, (by intro w hSw; (try dsimp only at hSw); go_simp)⟩) (by assumption) ?_
                try simp only [Act.put, List.getElem_toArray, List.getElem_cons_zero, List.getElem_cons_succ, List.setIfInBounds_toArray, List.set_cons_zero, List.set_cons_succ]
                refine wpAnyH_done (by kernel_rfl) ?_ _
                go_wp2
                go_ret2
                exact ⟨by rw [HGE.out]; rfl, HB3.out⟩
          · have HKN : Hid (Cd.High l (k + 1) ∧ Cd.acc (l.take (k + 1)) < 18446744073709551616) := Lib.hid ⟨Cd.high_snoc HK.out.1 (by rw [HX.out]; omega), by rw [HV.out.1]; exact HV.out.2⟩
            go_wp2
            go_roundw
            case rel => exact ⟨k + 1, by omega, by omega, by go_num, by rw [HV.out.1], HKN, trivial⟩
            case measure => simp [intOf]; omega
      · have hd1 : decide ((k : Int) < 10) = false := by simp; omega
        have hd2 : decide (k < n) = true := by simp; omega
        have HN := Lib.hid (Cd.getN_none (Cd.parse_open HB.out HK.out.1 (Or.inr (by omega))))
        go_wp2
        go_ret2
        exact got_none HN.out
    · have hd2 : decide (k < n) = false := by simp; omega
      have HN := Lib.hid (Cd.getN_none (Cd.parse_open HB.out HK.out.1 (Or.inl (by rw [HLN.out]; omega))))
      go_wp2
      go_ret2
      exact got_none HN.out
end Go.Proofs.Ytkmkccdihoaefaa
