/-
  The walk of LatticeOwn.
-/
import Derived.Test.YtdfmfjahnnifnaaAm
namespace Go.Proofs.Ytdfmfjahnnifnaa
set_option maxRecDepth 20000
set_option linter.unusedSimpArgs false
set_option linter.unusedVariables false
open Go.RowKit Go.Great Go.Shelf
theorem built9 : Try.prog.built 30 [(0, .int .i64 9)] = some (fcs 9 0 0 zm.toList).toArray := by kernel_rfl
/-- Behind stores to one block: all others are as they were. -/
structure Bar (g : Nat) (w w' : World) : Prop where
  below : Below g w w'
  size : w'.heap.size = w.heap.size
  rest : ∀ b, b ≠ g → w'.heap[b]? = w.heap[b]?
theorem Bar.refl (g : Nat) (w : World) : Bar g w w := ⟨Below.refl _ _, rfl, fun _ _ => rfl⟩
theorem Bar.row {g : Nat} {w w' : World} (h : Bar g w w') (cs : Array Value) : Bar g w (w'.setRow g cs) :=
  ⟨below_row h.below (Nat.le_refl _) _, by rw [← h.size]; simp [World.setRow], fun b hb => (setRow_other _ _ _ _ hb).trans (h.rest b hb)⟩
theorem Own.bar {w w' : World} {B g : Nat} {a : Option Addr} {n c : Nat} {R : List Fm} (h : Own w B a n c R) (hb : Bar g w w') (hg : g < B) : Own w' B a n c R :=
  ⟨own_keep h.own (fun b hq => hb.rest b (by have := own_ge h.own b hq; omega)), fun x hx => (h.rows x hx).keep (by rw [hb.size]; exact Nat.le_refl _) (fun b _ hB => hb.rest b (by omega)), h.len⟩
set_option maxHeartbeats 8000000 in
theorem own_walk {w : World} {S D S' D' : Nat → Prop} {p p' : Option Addr} {n m c d : Nat} {R Q : List Fm} (h : Fts w S D p n R) (h' : Fts w S' D' p' m Q) (N : Int) :
    Calls Try.prog 11 #[.int .i64 N, .slice p n c, .slice p' m d] w fun e w' => e = .returned (.bool true) ∧ Below w.heap.size w w' := by
  have H := Lib.hid h.old
  have H' := Lib.hid h'.old
  clear h h'
  obtain ⟨x, hx⟩ : ∃ x, La.grown N (FS R) 30 = x := ⟨_, rfl⟩
  obtain ⟨y, hy⟩ : ∃ y, La.grown N (FS Q) 30 = y := ⟨_, rfl⟩
  have GX : Hid (Gd N x 30 ∧ Gd N y 30) := Lib.hid ⟨by rw [← hx]; exact Gd.grown _ _ _, by rw [← hy]; exact Gd.grown _ _ _⟩
  have GM : Hid (Gd N (La.merge N x y) 60) := Lib.hid (GX.out.1.merge GX.out.2.few GX.out.2.len)
  obtain ⟨z, hz⟩ : ∃ z, La.merge N x y = z := ⟨_, rfl⟩
  rw [hz] at GM
  have HX := Lib.hid (And.intro hx (And.intro hy hz))
  clear hx hy hz
  go_enter Try.func11, Try.ntmps11
  go_wp2_with (first | (go_at_call 12; refine (awake_any lat _).mono ?_; rintro e w1 ⟨rfl, hb1⟩; have HB1 := Lib.hid hb1; clear hb1) | fail)
  refine (ol_grown lat (H.out.below HB1.out (fun _ _ h => h) (fun _ _ h => h)) N 30 (by omega)).mono ?_
  rintro e w2 ⟨ax, nx, cx, rfl, hox, hb2⟩
  rw [HX.out.1] at hox
  have HK2 := Lib.hid hox
  have HB2 := Lib.hid (HB1.out.trans (hb2.mono HB1.out.size))
  clear hox hb2 HB1 H
  go_wp2_with fail
  refine (ol_grown lat (H'.out.below HB2.out (fun _ _ h => h) (fun _ _ h => h)) N 30 (by omega)).mono ?_
  rintro e w3 ⟨ay, ny, cy, rfl, hoy, hb3⟩
  rw [HX.out.2.1] at hoy
  have HK3 := Lib.hid (And.intro (HK2.out.below hb3) hoy)
  have HB3 := Lib.hid (HB2.out.trans (hb3.mono HB2.out.size))
  clear hoy hb3 HB2 HK2 H'
  -- was
  obtain ⟨RX, hRX⟩ := HK3.out.1
  have HRX := Lib.hid hRX
  clear hRX
  have nx30 : nx ≤ 30 := by
    have h1 := HK3.out.1.len
    have h2 := GX.out.1.len
    omega
  have hb4 := below_alloc w3 (.cells #[] 30)
  have HO : Hid ((w3.alloc (.cells #[] 30)).ownsRow w3.heap.size 30 38 (.slice (some ⟨w3.heap.size, 0, none⟩) 0 0) 0 []) := Lib.hid (World.ownsRow_lit (base := w3.heap.size) (size := 38) (e := 30) w3 #[] 0 (Nat.le_refl _) (Nat.zero_le _) rfl)
  have HFX : Hid (Fts (w3.alloc (.cells #[] 30)) (fun b => b < w3.heap.size) (fun b => b < w3.heap.size) ax nx RX) := Lib.hid (HRX.out.1.fts.old.below hb4 (fun _ _ h => h) (fun _ _ h => h))
  have HB4 := Lib.hid hb4
  clear hb4
  go_wp2_with (first
    | ((with_reducible show wpList _ _ _ ((⟨_, Op.buildSlice _ _ _, _, _, _, _⟩ : Oper) :: _) _ _); refine wpList_build0 (by rfl) rfl ?_)
    | ((with_reducible show wpList _ _ _ ((⟨some 25, _, _, _, _, _⟩ : Oper) :: _) _ _); refine wpList_append_facts factsU _ (by rfl) (.tmp 23) (.tmp 24) rfl w3.heap.size (.slice (some ⟨w3.heap.size, 0, none⟩) 0 0) 0 [] rfl HO.out (fun b => b < w3.heap.size) (fun b => b < w3.heap.size) ax nx cx RX rfl HFX.out (by omega) (by omega) HB4.out.size ?_)
    | fail)
  intro v4 w4 hown hg4 _
  have hb5 := HB4.out.grown hg4 HB4.out.size (own_ge HO.out)
  try simp only [List.nil_append, Nat.zero_add] at hown
  have hrows : ∀ f ∈ RX, Rw w4 (fun b => b < w3.heap.size) f := fun f hf => (HFX.out.2.1 f hf).keep hg4.size (fun b hlt hb => hg4.block b hlt (fun e => by
    have := own_ge HO.out b e.symm
    omega))
  obtain ⟨aw, cw, rfl, hcw, hfw⟩ := own_facts hown hrows HRX.out.1.len
  have HK4 : Hid (OL w4 ax nx cx x ∧ OL w4 ay ny cy y ∧ Fts w4 (fun b => b < w4.heap.size) (fun b => b < w4.heap.size) aw nx RX ∧ Below w.heap.size w w4) := Lib.hid ⟨HK3.out.1.below hb5, HK3.out.2.below hb5, hfw.old, HB3.out.trans (hb5.mono HB3.out.size)⟩
  have HXE := Lib.hid HRX.out.2
  clear hown hg4 hb5 hrows hcw hfw HO HFX HB4 HK3 HB3 HRX
  -- m, again
  go_wp2_with fail
  obtain ⟨RX1, hX1, hX2⟩ := HK4.out.1
  obtain ⟨RY1, hY1, hY2⟩ := HK4.out.2.1
  have hny : ny ≤ 200 := by
    have h1 := hY1.num hY2
    have h2 := GX.out.2.len
    omega
  refine (lat_merge lat N hX1.fts hX1.le (by omega) hX2 GX.out.1.good GX.out.1.few hY1.fts hY1.le hny hY2 GX.out.2.few HX.out.2.2).mono ?_
  rintro e w5 ⟨am, nm, cm, RM, rfl, hom, hlm, hb5⟩
  have HK5 := Lib.hid (And.intro (HK4.out.1.below hb5) (And.intro (HK4.out.2.1.below hb5) (And.intro hom (And.intro hlm hb5))))
  clear hX1 hX2 hY1 hY2 hom hlm hb5
  go_wp2_with fail
  obtain ⟨RX1, hX1, hX2⟩ := HK5.out.1
  obtain ⟨RY1, hY1, hY2⟩ := HK5.out.2.1
  refine (lat_merge lat N hX1.fts hX1.le (by omega) hX2 GX.out.1.good GX.out.1.few hY1.fts hY1.le hny hY2 GX.out.2.few HX.out.2.2).mono ?_
  rintro e w6 ⟨ag, ng, cg, RG, rfl, hog, hlg, hb6⟩
  have hb46 : Below w4.heap.size w4 w6 := HK5.out.2.2.2.2.trans (hb6.mono HK5.out.2.2.2.2.size)
  have HK6 := Lib.hid (And.intro hb46 (And.intro (HK5.out.2.2.1.below hb6) (And.intro hog (And.intro hlg (HK4.out.2.2.2.trans (hb46.mono HK4.out.2.2.2.size))))))
  have hnm : nm ≤ 60 := by
    have h1 := HK5.out.2.2.1.num HK5.out.2.2.2.1
    have h2 := GM.out.len
    omega
  clear hX1 hX2 hY1 hY2 hog hlg hb6 hb46
  go_wp2
  by_cases h0 : nm = 0
  · subst h0
    go_loopw [13] (fun i wr => i = .int .i64 0 ∧ wr = w6) (fun i _ => 0)
    case atStart => exact ⟨rfl, rfl⟩
    case round =>
      obtain ⟨rfl, rfl⟩ := hrel
      have HT : Hid (OL wr ax nx cx x ∧ OL wr ay ny cy y ∧ Fts wr (fun b => b < w4.heap.size) (fun b => b < w4.heap.size) aw nx RX ∧ OL wr ag ng cg z ∧ Below w.heap.size w wr) := Lib.hid ⟨HK4.out.1.below HK6.out.1, HK4.out.2.1.below HK6.out.1, HK4.out.2.2.1.below HK6.out.1 (fun _ _ h => h) (fun _ _ h => h), ⟨RG, HK6.out.2.2.1.mono (Nat.zero_le _), HK6.out.2.2.2.1⟩, HK6.out.2.2.2.2⟩
      go_wp2_with fail
      obtain ⟨RX2, hX1, hX2⟩ := HT.out.1
      refine (rlsame_any hX1.fts HT.out.2.2.1 (by omega) (by omega) (fun q hq => by
        have := GX.out.1.few q.1 (by rw [← hX2]; exact List.mem_map.2 ⟨q, hq, rfl⟩)
        omega)).mono ?_
      rintro e w7 ⟨t, rfl, ht, hb7⟩
      obtain rfl : t = true := ht.2 (hX2.trans HXE.out.symm)
      have HT7 := Lib.hid (And.intro (HT.out.1.below hb7) (And.intro (HT.out.2.1.below hb7) (And.intro (HT.out.2.2.2.1.below hb7) (HT.out.2.2.2.2.trans (hb7.mono HT.out.2.2.2.2.size)))))
      clear hX1 hX2 ht hb7 HT
      go_wp2_with fail
      refine (ol_merge lat (i := 30) (j := 30) HT7.out.1 GX.out.1 HT7.out.2.1 GX.out.2.few GX.out.2.len (by omega) (by omega)).mono ?_
      rintro e w8 ⟨a8, n8, c8, rfl, ho8, hb8⟩
      rw [HX.out.2.2] at ho8
      have HT8 := Lib.hid (And.intro ho8 (And.intro (HT7.out.2.2.1.below hb8) (HT7.out.2.2.2.trans (hb8.mono HT7.out.2.2.2.size))))
      clear ho8 hb8 HT7
      go_wp2_with fail
      refine (ol_same (k := 60) HT8.out.1 HT8.out.2.1 GM.out.few GM.out.len (by omega)).mono ?_
      rintro e w9 ⟨rfl, hb9⟩
      have HB9 := Lib.hid (HT8.out.2.2.trans (hb9.mono HT8.out.2.2.size))
      clear hb9 HT8
      go_wp2
      go_ret
      exact ⟨rfl, HB9.out⟩
  · obtain ⟨g, cap, hv, hBg, hg5⟩ := HK5.out.2.2.1.own.form (by omega)
    injection hv with e1 e2 e3
    subst e1 e3
    have hcur : ∃ cur : List Value, Whole w6 g 30 cur.toArray ∧ cur.length = cm * 38 ∧ nm ≤ cm := by
      rcases HK6.out.2.1.own.2 with ⟨h', _⟩ | ⟨g', cap', cur, hv, hb, hh, hnc, hcm, hsz, htk⟩
      · simp at h'
      · injection hv with e1 e2 e3
        injection e1 with e1
        injection e1 with e1
        subst e1 e3
        exact ⟨cur.toList, by rw [Array.toArray_toList]; exact hh, by simpa using hsz, hnc⟩
    have HJ0 : Hid (Bar g w6 w6 ∧ ∃ cur : List Value, Whole w6 g 30 cur.toArray ∧ cur.length = cm * 38 ∧ nm ≤ cm) := Lib.hid ⟨Bar.refl _ _, hcur⟩
    have HG := Lib.hid (And.intro hBg hg5)
    obtain ⟨FL, hFL⟩ : ∃ FL, fcs 9 0 0 zm.toList = FL := ⟨_, rfl⟩
    have HBT := Lib.hid built9
    have hFS := fcs_size (k := 9) (e := 0) (n := 0) (M := zm.toList) rfl
    have hFO := fcs_one (k := 9) (e := 0) (n := 0) zm_one
    rw [hFL] at HBT hFS hFO
    have HFL := Lib.hid (And.intro hFS hFO)
    clear hcur hBg hg5 hFL hFS hFO
    go_loopw [13] (fun i wr => ∃ j : Nat, j ≤ nm ∧ i = .int .i64 (j : Int) ∧ Hid (Bar g w6 wr ∧ ∃ cur : List Value, Whole wr g 30 cur.toArray ∧ cur.length = cm * 38 ∧ nm ≤ cm)) (fun i _ => nm - (intOf i).toNat)
    case atStart => exact ⟨0, Nat.zero_le _, rfl, HJ0⟩
    case round =>
      clear HJ0
      obtain ⟨j, hj, rfl, HJ⟩ := hrel
      by_cases hlt : j < nm
      · obtain ⟨cur, hcur⟩ := HJ.out.2
        have HCR := Lib.hid hcur
        have q1 : (j : Int) < (nm : Int) := by omega
        clear hcur
        go_wp2_with (first
          | ((with_reducible show wpList _ _ _ ((⟨_, Op.build 30 _, _, _, _, _⟩ : Oper) :: _) _ _); refine wpList_built rfl _ rfl _ rfl FL HBT.out ?_)
          | ((with_reducible show wpList _ _ _ ((⟨_, Op.store 30 (.tmp 43) _, _, _, _, _⟩ : Oper) :: _) _ _); refine wpList_step fun _ hK => ?_; rw [if_pos (by rfl)]; refine wp_store_part (n := 30) 30 (.tmp 43) (.tmp 42) rfl g (j * 38) FL rfl rfl HCR.out.1 (by have h1 := HFL.out.1; rw [List.size_toArray] at h1; rw [h1]; exact info38) (by have h1 := HFL.out.2; simpa using h1) (by have h1 := HFL.out.1; rw [List.size_toArray] at h1; have h2 := HCR.out.2; omega) (hK _ _ ?_))
          | fail)
        have HV : Hid (Bar g w6 (wr.setRow g (splice cur (j * 38) FL).toArray) ∧ ∃ cur' : List Value, Whole (wr.setRow g (splice cur (j * 38) FL).toArray) g 30 cur'.toArray ∧ cur'.length = cm * 38 ∧ nm ≤ cm) := Lib.hid ⟨HJ.out.1.row _, _, HCR.out.1.row _, by
          have h1 := HFL.out.1
          rw [List.size_toArray] at h1
          have h2 := HCR.out.2
          rw [length_splice _ _ _ (by omega)]
          exact h2.1, HCR.out.2.2⟩
        exact ⟨⟨j + 1, by omega, by go_num, HV⟩, by simp [intOf]; omega⟩
      · have q1 : ¬ ((j : Int) < (nm : Int)) := by omega
        have hbb : Below w4.heap.size w4 wr := HK6.out.1.trans (HJ.out.1.below.mono HG.out.1)
        have HT : Hid (OL wr ax nx cx x ∧ OL wr ay ny cy y ∧ Fts wr (fun b => b < w4.heap.size) (fun b => b < w4.heap.size) aw nx RX ∧ OL wr ag ng cg z ∧ Below w.heap.size w wr) := Lib.hid ⟨HK4.out.1.below hbb, HK4.out.2.1.below hbb, HK4.out.2.2.1.below hbb (fun _ _ h => h) (fun _ _ h => h), ⟨RG, (HK6.out.2.2.1.bar HJ.out.1 HG.out.2).mono (Nat.zero_le _), HK6.out.2.2.2.1⟩, HK4.out.2.2.2.trans (hbb.mono HK4.out.2.2.2.size)⟩
        clear hbb HJ
        go_wp2_with fail
        obtain ⟨RX2, hX1, hX2⟩ := HT.out.1
        refine (rlsame_any hX1.fts HT.out.2.2.1 (by omega) (by omega) (fun q hq => by
          have := GX.out.1.few q.1 (by rw [← hX2]; exact List.mem_map.2 ⟨q, hq, rfl⟩)
          omega)).mono ?_
        rintro e w7 ⟨t, rfl, ht, hb7⟩
        obtain rfl : t = true := ht.2 (hX2.trans HXE.out.symm)
        have HT7 := Lib.hid (And.intro (HT.out.1.below hb7) (And.intro (HT.out.2.1.below hb7) (And.intro (HT.out.2.2.2.1.below hb7) (HT.out.2.2.2.2.trans (hb7.mono HT.out.2.2.2.2.size)))))
        clear hX1 hX2 ht hb7 HT
        go_wp2_with fail
        refine (ol_merge lat (i := 30) (j := 30) HT7.out.1 GX.out.1 HT7.out.2.1 GX.out.2.few GX.out.2.len (by omega) (by omega)).mono ?_
        rintro e w8 ⟨a8, n8, c8, rfl, ho8, hb8⟩
        rw [HX.out.2.2] at ho8
        have HT8 := Lib.hid (And.intro ho8 (And.intro (HT7.out.2.2.1.below hb8) (HT7.out.2.2.2.trans (hb8.mono HT7.out.2.2.2.size))))
        clear ho8 hb8 HT7
        go_wp2_with fail
        refine (ol_same (k := 60) HT8.out.1 HT8.out.2.1 GM.out.few GM.out.len (by omega)).mono ?_
        rintro e w9 ⟨rfl, hb9⟩
        have HB9 := Lib.hid (HT8.out.2.2.trans (hb9.mono HT8.out.2.2.size))
        clear hb9 HT8
        go_wp2
        go_ret
        exact ⟨rfl, HB9.out⟩
theorem own_w (N : Int) (a1 : Option Addr) (n1 c1 : Nat) (R1 : List Fm) (a2 : Option Addr) (n2 c2 : Nat) (R2 : List Fm) (w : World) (hN1 : -9223372036854775808 ≤ N) (hN2 : N ≤ 9223372036854775807) (h1 : Fts w (· < w.heap.size) (· < w.heap.size) a1 n1 R1) (h2 : Fts w (· < w.heap.size) (· < w.heap.size) a2 n2 R2) :
    Calls Try.prog 11 #[.int .i64 N, .slice a1 n1 c1, .slice a2 n2 c2] w fun e w' => e = .returned (.bool true) ∧ Below w.heap.size w w' := own_walk h1 h2 N
end Go.Proofs.Ytdfmfjahnnifnaa
