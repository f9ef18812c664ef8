/-
  The walk of awake: calls whose answers the document fixes; names and limits.
-/
import Derived.Test.YtdfmfjahnnifnaaLb
namespace La
open Ft
def f1 : Fact := ⟨2, 16, 1, Mf.zero⟩
def f2 : Fact := ⟨3, 32, 0, Mf.zero⟩
theorem aw1 : add 3 [] f1 = ([f1], 0) := by kernel_rfl
theorem aw2 : add 3 [f1] f1 = ([f1], 0) := by kernel_rfl
theorem aw3 : add 3 [f1] nought = ([f1], 100) := by kernel_rfl
theorem aw4 : merge 3 [f1] [f2] = [f1, f2] := by kernel_rfl
theorem aw5 : who [f1] 2 16 = [1] := by kernel_rfl
theorem aw_good : Good 3 [f1] := by have := add_good (good_nil 3) f1; rw [aw1] at this; exact this
theorem aw_good2 : Good 3 [f1, f2] := by have := merge_good [f2] aw_good; rw [aw4] at this; exact this
end La
namespace Go.Proofs.Ytdfmfjahnnifnaa
set_option maxRecDepth 20000
set_option linter.unusedSimpArgs false
set_option linter.unusedVariables false
open Go.RowKit Go.Great
section
variable {w : World} {S D S' D' D'' : Nat → Prop} {a b : Option Addr} {n c m d : Nat} {R Q : List Fm} {x : Fm} {l l' q : List Ft.Fact} {k : Int}
theorem lat_add (L : Lat) {X : List Value} (N : Int) (h : Fts w S D a n R) (hc : n ≤ c) (hn : n ≤ 200) (hl : FS R = l) (hg : La.Good N l) (hf : ∀ f ∈ l, f.man.ds.length ≤ 100) (hx : Rw w D' x) (hxf : x.1.man.ds.length ≤ 100) (hX : fc x = X) (ha : La.add N l x.1 = (l', k)) :
    Calls Try.prog 14 #[.int .i64 N, .slice a n c, .agg X.toArray] w (OwnsE w l' k) := by
  have := L.add N h hc hn (by rw [hl]; exact hg) (fewR_of hl hf) hx hxf
  rw [hl, ha, hX] at this
  exact this
theorem lat_merge (L : Lat) (N : Int) (h : Fts w S D a n R) (hc : n ≤ c) (hn : n ≤ 200) (hl : FS R = l) (hg : La.Good N l) (hf : ∀ f ∈ l, f.man.ds.length ≤ 100) (h' : Fts w S' D' b m Q) (hd : m ≤ d) (hm : m ≤ 200) (hl' : FS Q = q) (hf' : ∀ f ∈ q, f.man.ds.length ≤ 100) (ha : La.merge N l q = l') :
    Calls Try.prog 32 #[.int .i64 N, .slice a n c, .slice b m d] w (Owns w l') := by
  have := L.merge N h hc hn (by rw [hl]; exact hg) (fewR_of hl hf) h' hd hm (fewR_of hl' hf')
  rw [hl, hl', ha] at this
  exact this
end
theorem Own.num {w : World} {B : Nat} {a : Option Addr} {n c : Nat} {R : List Fm} {l : List Ft.Fact} (h : Own w B a n c R) (hl : FS R = l) : n = l.length := by rw [← hl, FS_len, h.len]
set_option maxHeartbeats 4000000 in
theorem awake_any (L : Lat) (w : World) : Calls Try.prog 12 #[] w fun e w' => e = .returned (.bool true) ∧ Below w.heap.size w w' := by
  obtain ⟨FL, hFL⟩ : ∃ FL, fcs 2 16 1 zm.toList = FL := ⟨_, rfl⟩
  have HBT := Lib.hid (built_f 2 16 1)
  have hFS := fcs_size (k := 2) (e := 16) (n := 1) (M := zm.toList) rfl
  have hFO := fcs_one (k := 2) (e := 16) (n := 1) zm_one
  rw [hFL] at HBT hFS hFO
  have hfb : FB ((w.alloc (.cells zf 30)).setRow w.heap.size FL.toArray) w.heap.size FL.toArray zm.toList La.f1 := fb_put (S := fun _ => True) (f := La.f1) (by rw [← hFL]; rfl) (zm_list w _) rfl (by unfold In64 La.f1; decide) zf
  have HF1 := Lib.hid hfb
  have HB1 := Lib.hid (show Below w.heap.size w ((w.alloc (.cells zf 30)).setRow w.heap.size FL.toArray) from put_below (Below.refl _ _) (Nat.le_refl _))
  have HX1 : Hid (fc (La.f1, zm.toList) = FL) := Lib.hid hFL
  have HR1 : Hid (∀ u : World, Rw u (fun _ => True) (La.f1, zm.toList)) := Lib.hid (fun u => ⟨zm_list u _, rfl, by unfold In64 La.f1; decide⟩)
  have HR0 : Hid (∀ u : World, Rw u (fun _ => True) (Ft.nought, zm.toList)) := Lib.hid (fun u => ⟨zm_list u _, rfl, by unfold In64 Ft.nought; decide⟩)
  have HR2 : Hid (∀ u : World, Rw u (fun _ => True) (La.f2, zm.toList)) := Lib.hid (fun u => ⟨zm_list u _, rfl, by unfold In64 La.f2; decide⟩)
  clear hFL hfb
  go_enter Try.func12, Try.ntmps12
  go_upto_region 2 with (first | ((with_reducible show wpList _ _ _ ((⟨_, Op.build 30 _, _, _, _, _⟩ : Oper) :: _) _ _); refine wpList_built rfl _ rfl _ rfl FL HBT.out ?_) | ((with_reducible show wpList _ _ _ ((⟨_, Op.store 30 (.tmp 1) _, _, _, _, _⟩ : Oper) :: _) _ _); rw [zeroF]; refine wpList_store_row rfl _ (.tmp 1) (.tmp 10) rfl w.heap.size FL.toArray rfl rfl 30 _ (Whole.new w _ _) (by rw [hFS]; exact info38) (by rw [hFS]; rfl) hFO ?_) | fail)
  generalize (w.alloc (.cells zf 30)).setRow w.heap.size FL.toArray = w1 at *
  go_wp2_with (first | ((with_reducible show wpList _ _ _ ((⟨_, Op.load 30 (.tmp 1), _, _, _, _⟩ : Oper) :: _) _ _); refine fb_load HF1.out (by rfl) (.tmp 1) rfl rfl ?_) | fail)
  refine (lat_add L 3 (Fts.nil w1 (fun _ => True) (fun _ => True) none) (Nat.le_refl _) (by omega) rfl (La.good_nil 3) (fun f hf => by cases hf) (HR1.out w1) (Nat.zero_le _) HX1.out La.aw1).mono ?_
  rintro e w2 ⟨a2, n2, c2, R2, rfl, ho2, hl2, hb2⟩
  obtain rfl : n2 = 1 := ho2.num hl2
  have HO2 := Lib.hid ho2
  have HL2 := Lib.hid hl2
  have HF2 := Lib.hid (HF1.out.below hb2)
  have HB2 := Lib.hid (HB1.out.trans (hb2.mono HB1.out.size))
  clear ho2 hl2 hb2 HF1 HB1
  go_wp2_with (first | ((with_reducible show wpList _ _ _ ((⟨_, Op.load 30 (.tmp 1), _, _, _, _⟩ : Oper) :: _) _ _); refine fb_load HF2.out (by rfl) (.tmp 1) rfl rfl ?_) | fail)
  refine (lat_add L 3 HO2.out.fts HO2.out.le (by omega) HL2.out La.aw_good (fun f hf => by rw [List.mem_singleton.1 hf]; exact Nat.zero_le _) (HR1.out w2) (Nat.zero_le _) HX1.out La.aw2).mono ?_
  rintro e w3 ⟨a3, n3, c3, R3, rfl, ho3, hl3, hb3⟩
  obtain rfl : n3 = 1 := ho3.num hl3
  have HO3 := Lib.hid (And.intro (HO2.out.below hb3) ho3)
  have HL3 := Lib.hid hl3
  have HB3 := Lib.hid (HB2.out.trans (hb3.mono HB2.out.size))
  clear ho3 hl3 hb3 HF2 HB2 HO2
  go_wp2_with fail
  refine (L.who (w := w3) 3 2 16 HO3.out.2.fts HO3.out.2.le (by omega) (by rw [HL3.out]; exact La.aw_good)).mono ?_
  rintro e w4 ⟨q4, m4, p4, rfl, hp4, hn4, hb4⟩
  rw [HL3.out, La.aw5] at hn4
  obtain rfl : m4 = 1 := hn4.1.symm
  have HO4 := Lib.hid (And.intro (HO3.out.1.below hb4) (HO3.out.2.below hb4))
  have HW4 := Lib.hid hn4.old
  have HB4 := Lib.hid (HB3.out.trans (hb4.mono HB3.out.size))
  obtain ⟨FL0, hFL0⟩ : ∃ FL0, fcs 0 0 0 zm.toList = FL0 := ⟨_, rfl⟩
  have HBT0 := Lib.hid built_f0
  rw [hFL0] at HBT0
  have HX0 : Hid (fc (Ft.nought, zm.toList) = FL0) := Lib.hid hFL0
  clear hn4 hb4 hFL0 HO3 HB3
  go_wp2_with (first | ((with_reducible show wpList _ _ _ ((⟨_, Op.build 30 _, _, _, _, _⟩ : Oper) :: _) _ _); refine wpList_built rfl _ rfl _ rfl FL0 HBT0.out ?_) | fail)
  refine (lat_add L 3 HO4.out.2.fts HO4.out.2.le (by omega) HL3.out La.aw_good (fun f hf => by rw [List.mem_singleton.1 hf]; exact Nat.zero_le _) (HR0.out w4) (Nat.zero_le _) HX0.out La.aw3).mono ?_
  rintro e w5 ⟨a5, n5, c5, R5, rfl, ho5, hl5, hb5⟩
  have HO5 := Lib.hid (And.intro (HO4.out.1.below hb5) (HO4.out.2.below hb5))
  have HW5 := Lib.hid (HW4.out.below hb5 (fun _ h _ => h))
  have HB5 := Lib.hid (HB4.out.trans (hb5.mono HB4.out.size))
  obtain ⟨FL2, hFL2⟩ : ∃ FL2, fcs 3 32 0 zm.toList = FL2 := ⟨_, rfl⟩
  have HBT2 := Lib.hid (show Try.prog.built 30 [(0, .int .i64 3), (1, .int .i64 32)] = some (fcs 3 32 0 zm.toList).toArray by kernel_rfl)
  rw [hFL2] at HBT2
  have hL2 : FL2.length = 38 := by rw [← hFL2]; rfl
  have HX2 : Hid (fc (La.f2, zm.toList) = FL2) := Lib.hid hFL2
  have hA := below_alloc w5 (.cells FL2.toArray 30)
  have HO6 := Lib.hid (And.intro (HO5.out.1.below hA) (HO5.out.2.below hA))
  have HW6 := Lib.hid (HW5.out.below hA (fun _ h _ => h))
  have HB6 := Lib.hid (HB5.out.trans (hA.mono HB5.out.size))
  have HQ6 : Hid (Fts (w5.alloc (.cells FL2.toArray 30)) (fun _ => True) (fun _ => True) (some ⟨w5.heap.size, 0, none⟩) 1 [(La.f2, zm.toList)]) := Lib.hid (fts_one (T := 30) (by rw [HX2.out]; exact Whole.new _ _ _) trivial (HR2.out _))
  clear ho5 hl5 hb5 hFL2 HO4 HB4 HW4 hA HO5 HW5 HB5
  go_wp2_with (first | ((with_reducible show wpList _ _ _ ((⟨_, Op.build 30 _, _, _, _, _⟩ : Oper) :: _) _ _); refine wpList_built rfl _ rfl _ rfl FL2 HBT2.out ?_) | ((with_reducible show wpList _ _ _ ((⟨_, Op.buildSlice _ _ _, _, _, _, _⟩ : Oper) :: _) _ _); refine wpList_buildF factsU (by rfl) 31 rfl FL2 hL2 rfl ?_) | fail)
  generalize w5.alloc (.cells FL2.toArray 30) = w6 at *
  refine (lat_merge L 3 HO6.out.1.fts HO6.out.1.le (by omega) HL2.out La.aw_good (fun f hf => by rw [List.mem_singleton.1 hf]; exact Nat.zero_le _) HQ6.out (Nat.le_refl _) (by omega) rfl (fun f hf => by rw [List.mem_singleton.1 hf]; exact Nat.zero_le _) La.aw4).mono ?_
  rintro e w7 ⟨a7, n7, c7, R7, rfl, ho7, hl7, hb7⟩
  obtain rfl : n7 = 2 := ho7.num hl7
  have HM7 := Lib.hid ho7
  have HL7 := Lib.hid hl7
  have HO7 := Lib.hid (HO6.out.2.below hb7)
  have HW7 := Lib.hid (HW6.out.below hb7 (fun _ h _ => h))
  have HB7 := Lib.hid (HB6.out.trans (hb7.mono HB6.out.size))
  obtain ⟨g4, o4, rfl, _, _, hc4⟩ := HW7.out.cell (k := 0) (by omega)
  rw [Nat.add_zero] at hc4
  have hc4' : w7.cell? ⟨g4, o4, none⟩ = some (.int .i64 1) := hc4
  clear ho7 hl7 hb7 HO6 HW6 HB6 HQ6 hc4 hL2
  go_wp2_with fail
  refine (L.has (w := w7) 3 2 16 1 HO7.out.fts HO7.out.le (by omega) (by rw [HL3.out]; exact La.aw_good)).mono ?_
  rintro e w8 ⟨rfl, hb8⟩
  rw [HL3.out, show decide (La.has [La.f1] 2 16 1) = true from by decide]
  have HM8 := Lib.hid (HM7.out.below hb8)
  have HO8 := Lib.hid (HO7.out.below hb8)
  have HB8 := Lib.hid (HB7.out.trans (hb8.mono HB7.out.size))
  clear hb8 HM7 HO7 HB7 hc4' HW7
  go_wp2_with fail
  refine (L.has (w := w8) 3 2 16 0 HO8.out.fts HO8.out.le (by omega) (by rw [HL3.out]; exact La.aw_good)).mono ?_
  rintro e w9 ⟨rfl, hb9⟩
  rw [HL3.out, show decide (La.has [La.f1] 2 16 0) = false from by decide]
  have HM9 := Lib.hid (HM8.out.below hb9)
  have HO9 := Lib.hid (HO8.out.below hb9)
  have HB9 := Lib.hid (HB8.out.trans (hb9.mono HB8.out.size))
  clear hb9 HM8 HO8 HB8
  go_wp2_with fail
  refine (L.best (w := w9) 3 2 HO9.out.fts HO9.out.le (by omega) (by rw [HL3.out]; exact La.aw_good)).mono ?_
  rintro e w10 ⟨rfl, hb10⟩
  rw [HL3.out, show La.best [La.f1] 2 = 0 by kernel_rfl]
  have HM10 := Lib.hid (HM9.out.below hb10)
  have HB10 := Lib.hid (HB9.out.trans (hb10.mono HB9.out.size))
  clear hb10 HM9 HO9 HB9
  go_wp2_with fail
  refine (L.next (w := w10) 3 HM10.out.fts HM10.out.le (by omega) (by rw [HL7.out]; exact La.aw_good2)).mono ?_
  rintro e w11 ⟨rfl, hb11⟩
  rw [HL7.out, show La.next [La.f1, La.f2] = 3 by kernel_rfl]
  have HM11 := Lib.hid (HM10.out.below hb11)
  have HB11 := Lib.hid (HB10.out.trans (hb11.mono HB10.out.size))
  clear hb11 HM10 HB10
  go_wp2_with fail
  refine (L.next (w := w11) 3 (Fts.nil w11 (fun _ => True) (fun _ => True) none) (Nat.le_refl _) (by omega) (La.good_nil 3)).mono ?_
  rintro e w12 ⟨rfl, hb12⟩
  rw [show La.next (FS []) = 1 by kernel_rfl]
  have HM12 := Lib.hid (HM11.out.below hb12)
  have HB12 := Lib.hid (HB11.out.trans (hb12.mono HB11.out.size))
  clear hb12 HM11 HB11
  go_wp2_with fail
  refine (L.aborted (w := w12) 3 32 1 HM12.out.fts HM12.out.le (by omega) (by rw [HL7.out]; exact La.aw_good2)).mono ?_
  rintro e w13 ⟨rfl, hb13⟩
  rw [HL7.out, show decide (La.aborted [La.f1, La.f2] 32 1) = true from by decide]
  have HM13 := Lib.hid (HM12.out.below hb13)
  have HB13 := Lib.hid (HB12.out.trans (hb13.mono HB12.out.size))
  clear hb13 HM12 HB12
  go_wp2_with fail
  refine (L.aborted (w := w13) 3 32 2 HM13.out.fts HM13.out.le (by omega) (by rw [HL7.out]; exact La.aw_good2)).mono ?_
  rintro e w14 ⟨rfl, hb14⟩
  rw [HL7.out, show decide (La.aborted [La.f1, La.f2] 32 2) = false from by decide]
  have HB14 := Lib.hid (HB13.out.trans (hb14.mono HB13.out.size))
  clear hb14 HM13 HB13
  go_wp2
  go_ret
  exact ⟨rfl, HB14.out⟩
theorem names_walk (L : Lat) (w : World) : Calls Try.prog 3 #[] w fun e w' => e = .returned (.bool true) ∧ Below w.heap.size w w' := by
  go_enter Try.func3, Try.ntmps3
  go_wp2_with (go_at_call 12; refine (awake_any L _).mono ?_; rintro e w1 ⟨rfl, hb1⟩; have HB := Lib.hid hb1; clear hb1)
  go_ret
  exact ⟨rfl, HB.out⟩
end Go.Proofs.Ytdfmfjahnnifnaa
