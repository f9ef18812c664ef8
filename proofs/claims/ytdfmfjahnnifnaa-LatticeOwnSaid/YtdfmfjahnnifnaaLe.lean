/-
  Lists of one's own by what they hold; the walk of LatticeJoins.
-/
import Derived.Test.YtdfmfjahnnifnaaLc
namespace Go.Proofs.Ytdfmfjahnnifnaa
set_option maxRecDepth 20000
set_option linter.unusedSimpArgs false
set_option linter.unusedVariables false
open Go.RowKit Go.Great
/-- A list of one's own, by what it holds. -/
def OL (w : World) (a : Option Addr) (n c : Nat) (l : List Ft.Fact) : Prop := ∃ R, Own w 0 a n c R ∧ FS R = l
section
variable {w w' : World} {a b : Option Addr} {n c m d : Nat} {l q : List Ft.Fact} {N : Int}
theorem OL.below (h : OL w a n c l) (hb : Below w.heap.size w w') : OL w' a n c l := h.imp fun R h => ⟨h.1.below hb, h.2⟩
theorem OL.len (h : OL w a n c l) : n = l.length := by
  obtain ⟨R, h1, h2⟩ := h
  exact h1.num h2
theorem Owns.ol {e : Ending} (h : Owns w l e w') : ∃ a n c, e = .returned (.slice a n c) ∧ OL w' a n c l ∧ Below w.heap.size w w' := by
  obtain ⟨a, n, c, R, rfl, h1, h2, h3⟩ := h
  exact ⟨a, n, c, rfl, ⟨R, h1.mono (Nat.zero_le _), h2⟩, h3⟩
/-- Facts that may be, of little loads, so many at most. -/
structure Gd (N : Int) (l : List Ft.Fact) (k : Nat) : Prop where
  good : La.Good N l
  few : ∀ f ∈ l, f.man.ds.length ≤ 100
  len : l.length ≤ k
theorem Gd.grown (N : Int) (l : List Ft.Fact) (k : Nat) : Gd N (La.grown N l k) k := ⟨La.grown_good _ _ _, fun f hf => La.grown_few hf, La.grown_len _ _ _⟩
theorem Gd.merge {i j : Nat} (h : Gd N l i) (h' : ∀ f ∈ q, f.man.ds.length ≤ 100) (hq : q.length ≤ j) : Gd N (La.merge N l q) (i + j) :=
  ⟨La.merge_good q h.good, fun f hf => (La.merge_mem q hf).elim (h.few f) (h' f), by have := La.merge_len (nodes := N) q (a := l); have := h.len; omega⟩
theorem ol_merge (L : Lat) {i j : Nat} (h : OL w a n c l) (hg : Gd N l i) (h' : OL w b m d q) (hf : ∀ f ∈ q, f.man.ds.length ≤ 100) (hq : q.length ≤ j) (hi : i ≤ 200) (hj : j ≤ 200) :
    Calls Try.prog 32 #[.int .i64 N, .slice a n c, .slice b m d] w fun e w' => ∃ a' n' c', e = .returned (.slice a' n' c') ∧ OL w' a' n' c' (La.merge N l q) ∧ Below w.heap.size w w' := by
  have hn := h.len
  have hm := h'.len
  have hl := hg.len
  obtain ⟨R, h1, h2⟩ := h
  obtain ⟨Q, h3, h4⟩ := h'
  exact (lat_merge L N h1.fts h1.le (by omega) h2 hg.good hg.few h3.fts h3.le (by omega) h4 hf rfl).mono fun e w' h => h.ol
theorem ol_same {k : Nat} (h : OL w a n c l) (h' : OL w b m d l) (hf : ∀ f ∈ l, f.man.ds.length ≤ 100) (hk : l.length ≤ k) (hk' : k ≤ 1000) :
    Calls Try.prog 16 #[.slice a n c, .slice b m d] w fun e w' => e = .returned (.bool true) ∧ Below w.heap.size w w' := by
  have hn := h.len
  have hm := h'.len
  obtain ⟨R, h1, h2⟩ := h
  obtain ⟨Q, h3, h4⟩ := h'
  refine (rlsame_any h1.fts h3.fts (by omega) (by omega) (fun z hz => Nat.le_trans (fewR_of h2 hf z hz) (by omega))).mono ?_
  rintro e w' ⟨t, rfl, ht, hb⟩
  obtain rfl : t = true := ht.2 (h2.trans h4.symm)
  exact ⟨rfl, hb⟩
theorem ol_grown (L : Lat) {S D : Nat → Prop} {R : List Fm} (h : Fts w S D a n R) (N : Int) (most : Nat) (hmost : most ≤ 40) :
    Calls Try.prog 31 #[.int .i64 N, .slice a n c, .int .i64 (most : Int)] w fun e w' => ∃ a' n' c', e = .returned (.slice a' n' c') ∧ OL w' a' n' c' (La.grown N (FS R) most) ∧ Below w.heap.size w w' :=
  (grown_any L h N most hmost).mono fun e w' h => h.ol
theorem ol_plain (L : Lat) {S D : Nat → Prop} {R : List Fm} (h : Fts w S D a n R) : Calls Try.prog 34 #[.slice a n c, .int .i64 40] w (Lists w (La.plainOf (FS R) 40)) := plain_any h 40 (Nat.le_refl _)
theorem ol_grown40 (L : Lat) {S D : Nat → Prop} {R : List Fm} (h : Fts w S D a n R) (N : Int) :
    Calls Try.prog 31 #[.int .i64 N, .slice a n c, .int .i64 40] w fun e w' => ∃ a' n' c', e = .returned (.slice a' n' c') ∧ OL w' a' n' c' (La.grown N (FS R) 40) ∧ Below w.heap.size w w' := ol_grown L h N 40 (Nat.le_refl _)
end
set_option maxHeartbeats 4000000 in
theorem joins_walk (L : Lat) {w : World} {S1 D1 S2 D2 S3 D3 : Nat → Prop} {p1 p2 p3 : Option Addr} {n1 n2 n3 c1 c2 c3 : Nat} {R1 R2 R3 : List Fm} (h1 : Fts w S1 D1 p1 n1 R1) (h2 : Fts w S2 D2 p2 n2 R2) (h3 : Fts w S3 D3 p3 n3 R3) (N : Int) :
    Calls Try.prog 6 #[.int .i64 N, .slice p1 n1 c1, .slice p2 n2 c2, .slice p3 n3 c3] w fun e w' => e = .returned (.bool true) ∧ Below w.heap.size w w' := by
  have H1 := Lib.hid h1.old
  have H2 := Lib.hid h2.old
  have H3 := Lib.hid h3.old
  clear h1 h2 h3
  obtain ⟨x, hx⟩ : ∃ x, La.grown N (La.plainOf (FS R1) 40) 40 = x := ⟨_, rfl⟩
  obtain ⟨y, hy⟩ : ∃ y, La.grown N (La.plainOf (FS R2) 40) 40 = y := ⟨_, rfl⟩
  obtain ⟨z, hz⟩ : ∃ z, La.grown N (La.plainOf (FS R3) 40) 40 = z := ⟨_, rfl⟩
  have HX := Lib.hid (And.intro hx (And.intro hy hz))
  have GX : Hid (Gd N x 40 ∧ Gd N y 40 ∧ Gd N z 40) := Lib.hid ⟨by rw [← hx]; exact Gd.grown _ _ _, by rw [← hy]; exact Gd.grown _ _ _, by rw [← hz]; exact Gd.grown _ _ _⟩
  have PX : Hid (La.Plain N x ∧ La.Plain N y ∧ La.Plain N z) := Lib.hid ⟨by rw [← hx]; exact La.grown_plain _ _ _ _, by rw [← hy]; exact La.grown_plain _ _ _ _, by rw [← hz]; exact La.grown_plain _ _ _ _⟩
  have lx : x.length ≤ 40 := GX.out.1.len
  have ly : y.length ≤ 40 := GX.out.2.1.len
  have lz : z.length ≤ 40 := GX.out.2.2.len
  have E1 : Hid (La.merge N x y = La.merge N y x) := Lib.hid (La.join_comm PX.out.1 PX.out.2.1 (by omega))
  have E2 : Hid (La.merge N (La.merge N x y) z = La.merge N x (La.merge N y z)) := Lib.hid (La.join_assoc PX.out.1 PX.out.2.1 PX.out.2.2 (by omega))
  have E3 : Hid (La.merge N (La.merge N x y) y = La.merge N x y) := Lib.hid (La.join_again PX.out.1 PX.out.2.1 (by omega))
  have E4 : Hid (La.merge N x x = x) := Lib.hid (La.join_self PX.out.1 (by omega))
  have GM : Hid (Gd N (La.merge N x y) 80 ∧ Gd N (La.merge N y z) 80 ∧ Gd N (La.merge N (La.merge N x y) z) 120) := Lib.hid ⟨GX.out.1.merge GX.out.2.1.few ly, GX.out.2.1.merge GX.out.2.2.few lz, (GX.out.1.merge GX.out.2.1.few ly).merge GX.out.2.2.few lz⟩
  clear hx hy hz PX
  go_enter Try.func6, Try.ntmps6
  go_wp2_with (first | (go_at_call 12; refine (awake_any L _).mono ?_; rintro e w1 ⟨rfl, hb1⟩; have HB1 := Lib.hid hb1; clear hb1) | fail)
  -- x
  refine (ol_plain L (H1.out.below HB1.out (fun _ _ h => h) (fun _ _ h => h))).mono ?_
  rintro e w2 ⟨a2, m2, d2, Q2, rfl, _, hf2, hl2, hb2⟩
  have HB2 := Lib.hid (HB1.out.trans (hb2.mono HB1.out.size))
  have HF2 := Lib.hid (And.intro hf2 hl2)
  clear hf2 hl2 hb2 HB1
  go_wp2_with fail
  refine (ol_grown40 L HF2.out.1 N).mono ?_
  rintro e w3 ⟨ax, nx, cx, rfl, hox, hb3⟩
  rw [HF2.out.2, HX.out.1] at hox
  have HK3 := Lib.hid hox
  have HB3 := Lib.hid (HB2.out.trans (hb3.mono HB2.out.size))
  clear hox hb3 HB2 HF2
  -- y
  go_wp2_with fail
  refine (ol_plain L (H2.out.below HB3.out (fun _ _ h => h) (fun _ _ h => h))).mono ?_
  rintro e w4 ⟨a4, m4, d4, Q4, rfl, _, hf4, hl4, hb4⟩
  have HB4 := Lib.hid (HB3.out.trans (hb4.mono HB3.out.size))
  have HF4 := Lib.hid (And.intro hf4 hl4)
  have HK4 := Lib.hid (HK3.out.below hb4)
  clear hf4 hl4 hb4 HB3 HK3
  go_wp2_with fail
  refine (ol_grown40 L HF4.out.1 N).mono ?_
  rintro e w5 ⟨ay, ny, cy, rfl, hoy, hb5⟩
  rw [HF4.out.2, HX.out.2.1] at hoy
  have HK5 := Lib.hid (And.intro (HK4.out.below hb5) hoy)
  have HB5 := Lib.hid (HB4.out.trans (hb5.mono HB4.out.size))
  clear hoy hb5 HB4 HF4 HK4
  -- z
  go_wp2_with fail
  refine (ol_plain L (H3.out.below HB5.out (fun _ _ h => h) (fun _ _ h => h))).mono ?_
  rintro e w6 ⟨a6, m6, d6, Q6, rfl, _, hf6, hl6, hb6⟩
  have HB6 := Lib.hid (HB5.out.trans (hb6.mono HB5.out.size))
  have HF6 := Lib.hid (And.intro hf6 hl6)
  have HK6 := Lib.hid (And.intro (HK5.out.1.below hb6) (HK5.out.2.below hb6))
  clear hf6 hl6 hb6 HB5 HK5
  go_wp2_with fail
  refine (ol_grown40 L HF6.out.1 N).mono ?_
  rintro e w7 ⟨az, nz, cz, rfl, hoz, hb7⟩
  rw [HF6.out.2, HX.out.2.2] at hoz
  have HK7 := Lib.hid (And.intro (HK6.out.1.below hb7) (And.intro (HK6.out.2.below hb7) hoz))
  have HB7 := Lib.hid (HB6.out.trans (hb7.mono HB6.out.size))
  clear hoz hb7 HB6 HF6 HK6 H1 H2 H3
  -- xy
  go_wp2_with fail
  refine (ol_merge L HK7.out.1 GX.out.1 HK7.out.2.1 GX.out.2.1.few ly (by omega) (by omega)).mono ?_
  rintro e w8 ⟨ap, np, cp, rfl, hop, hb8⟩
  have HK8 := Lib.hid (And.intro (HK7.out.1.below hb8) (And.intro (HK7.out.2.1.below hb8) (And.intro (HK7.out.2.2.below hb8) hop)))
  have HB8 := Lib.hid (HB7.out.trans (hb8.mono HB7.out.size))
  clear hop hb8 HB7 HK7
  -- yx
  go_wp2_with fail
  refine (ol_merge L HK8.out.2.1 GX.out.2.1 HK8.out.1 GX.out.1.few lx (by omega) (by omega)).mono ?_
  rintro e w9 ⟨ar, nr, cr, rfl, hor, hb9⟩
  rw [← E1.out] at hor
  have HK9 := Lib.hid (And.intro (HK8.out.1.below hb9) (And.intro (HK8.out.2.1.below hb9) (And.intro (HK8.out.2.2.1.below hb9) (HK8.out.2.2.2.below hb9))))
  have HR9 := Lib.hid hor
  have HB9 := Lib.hid (HB8.out.trans (hb9.mono HB8.out.size))
  clear hor hb9 HB8 HK8
  go_wp2_with fail
  refine (ol_same HK9.out.2.2.2 HR9.out GM.out.1.few GM.out.1.len (by omega)).mono ?_
  rintro e w10 ⟨rfl, hb10⟩
  have HK10 := Lib.hid (And.intro (HK9.out.1.below hb10) (And.intro (HK9.out.2.1.below hb10) (And.intro (HK9.out.2.2.1.below hb10) (HK9.out.2.2.2.below hb10))))
  have HB10 := Lib.hid (HB9.out.trans (hb10.mono HB9.out.size))
  clear hb10 HB9 HK9 HR9
  -- (xy)z, yz, x(yz)
  go_wp2_with fail
  refine (ol_merge L HK10.out.2.2.2 GM.out.1 HK10.out.2.2.1 GX.out.2.2.few lz (by omega) (by omega)).mono ?_
  rintro e w11 ⟨as1, ns, cs, rfl, hos, hb11⟩
  have HK11 := Lib.hid (And.intro (HK10.out.1.below hb11) (And.intro (HK10.out.2.1.below hb11) (And.intro (HK10.out.2.2.1.below hb11) (HK10.out.2.2.2.below hb11))))
  have HS11 := Lib.hid hos
  have HB11 := Lib.hid (HB10.out.trans (hb11.mono HB10.out.size))
  clear hos hb11 HB10 HK10
  go_wp2_with fail
  refine (ol_merge L HK11.out.2.1 GX.out.2.1 HK11.out.2.2.1 GX.out.2.2.few lz (by omega) (by omega)).mono ?_
  rintro e w12 ⟨at1, nt, ct, rfl, hot, hb12⟩
  have HK12 := Lib.hid (And.intro (HK11.out.1.below hb12) (And.intro (HK11.out.2.1.below hb12) (And.intro (HK11.out.2.2.1.below hb12) (HK11.out.2.2.2.below hb12))))
  have HS12 := Lib.hid (And.intro (HS11.out.below hb12) hot)
  have HB12 := Lib.hid (HB11.out.trans (hb12.mono HB11.out.size))
  clear hot hb12 HB11 HK11 HS11
  go_wp2_with fail
  refine (ol_merge L HK12.out.1 GX.out.1 HS12.out.2 GM.out.2.1.few GM.out.2.1.len (by omega) (by omega)).mono ?_
  rintro e w13 ⟨av, nv, cv, rfl, hov, hb13⟩
  rw [← E2.out] at hov
  have HK13 := Lib.hid (And.intro (HK12.out.1.below hb13) (And.intro (HK12.out.2.1.below hb13) (HK12.out.2.2.2.below hb13)))
  have HS13 := Lib.hid (And.intro (HS12.out.1.below hb13) hov)
  have HB13 := Lib.hid (HB12.out.trans (hb13.mono HB12.out.size))
  clear hov hb13 HB12 HK12 HS12
  go_wp2_with fail
  refine (ol_same HS13.out.1 HS13.out.2 GM.out.2.2.few GM.out.2.2.len (by omega)).mono ?_
  rintro e w14 ⟨rfl, hb14⟩
  have HK14 := Lib.hid (And.intro (HK13.out.1.below hb14) (And.intro (HK13.out.2.1.below hb14) (HK13.out.2.2.below hb14)))
  have HB14 := Lib.hid (HB13.out.trans (hb14.mono HB13.out.size))
  clear hb14 HB13 HK13 HS13
  -- (xy)y
  go_wp2_with fail
  refine (ol_merge L HK14.out.2.2 GM.out.1 HK14.out.2.1 GX.out.2.1.few ly (by omega) (by omega)).mono ?_
  rintro e w15 ⟨ag, ng, cg, rfl, hog, hb15⟩
  rw [E3.out] at hog
  have HK15 := Lib.hid (And.intro (HK14.out.1.below hb15) (HK14.out.2.2.below hb15))
  have HS15 := Lib.hid hog
  have HB15 := Lib.hid (HB14.out.trans (hb15.mono HB14.out.size))
  clear hog hb15 HB14 HK14
  go_wp2_with fail
  refine (ol_same HS15.out HK15.out.2 GM.out.1.few GM.out.1.len (by omega)).mono ?_
  rintro e w16 ⟨rfl, hb16⟩
  have HK16 := Lib.hid (HK15.out.1.below hb16)
  have HB16 := Lib.hid (HB15.out.trans (hb16.mono HB15.out.size))
  clear hb16 HB15 HK15 HS15
  -- xx
  go_wp2_with fail
  refine (ol_merge L HK16.out GX.out.1 HK16.out GX.out.1.few lx (by omega) (by omega)).mono ?_
  rintro e w17 ⟨ah, nh, ch, rfl, hoh, hb17⟩
  rw [E4.out] at hoh
  have HK17 := Lib.hid (And.intro (HK16.out.below hb17) hoh)
  have HB17 := Lib.hid (HB16.out.trans (hb17.mono HB16.out.size))
  clear hoh hb17 HB16 HK16
  go_wp2_with fail
  refine (ol_same HK17.out.2 HK17.out.1 GX.out.1.few lx (by omega)).mono ?_
  rintro e w18 ⟨rfl, hb18⟩
  have HB18 := Lib.hid (HB17.out.trans (hb18.mono HB17.out.size))
  clear hb18 HB17 HK17
  go_wp2
  go_ret
  exact ⟨rfl, HB18.out⟩
end Go.Proofs.Ytdfmfjahnnifnaa
