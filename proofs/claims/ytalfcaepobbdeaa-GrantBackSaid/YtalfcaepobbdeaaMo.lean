/-
  The walk of GrantOne.
-/
import Derived.Test.YtalfcaepobbdeaaMn
namespace Go.Proofs.Ytalfcaepobbdeaa
open Go.RowKit Go.Great
set_option linter.unusedVariables false
set_option linter.unusedSimpArgs false
set_option maxRecDepth 20000
/-- Nine numbers, told by their places. -/
def nine (f : Nat → Int) : List Value := (List.range 9).map fun x => .int .i64 (f x)
theorem nine_get (f : Nat → Int) {x : Nat} (h : x < 9) : (nine f)[x]? = some (.int .i64 (f x)) := by simp [nine, h]
theorem nine_set {f f' : Nat → Int} {x : Nat} (h : ∀ y, y < 9 → y ≠ x → f' y = f y) : (nine f).toArray.setIfInBounds x (.int .i64 (f' x)) = (nine f').toArray := by
  rw [List.setIfInBounds_toArray]
  congr 1
  unfold nine
  refine List.ext_getElem (by simp) fun i h1 h2 => ?_
  rw [List.getElem_set]
  simp only [List.getElem_map, List.getElem_range]
  split
  · rename_i e; rw [e]
  · rename_i e
    rw [h i (by simpa using h2) (fun e' => e e'.symm)]
theorem built_h9 : Try.prog.built 41 [] = some (nine fun _ => 0).toArray := by kernel_rfl
theorem built_s9 : Try.prog.built 42 [] = some (nine fun _ => 0).toArray := by kernel_rfl
theorem zero_n9 : (nine fun _ => 0).toArray = #[.int .i64 0, .int .i64 0, .int .i64 0, .int .i64 0, .int .i64 0, .int .i64 0, .int .i64 0, .int .i64 0, .int .i64 0] := by kernel_rfl
theorem info_h9 : (Try.prog.info? 41).map (·.size) = some 9 := by kernel_rfl
theorem info_s9 : (Try.prog.info? 42).map (·.size) = some 9 := by kernel_rfl
/-- All blocks but the walk's own three. -/
def Sx (g : Nat) (b : Nat) : Prop := b ≠ g ∧ b ≠ g + 1 ∧ b ≠ g + 1 + 1
/-- The walk's own blocks: an acceptor, who has a slot, since when. -/
structure Sto (w1 w : World) (g : Nat) (V : Array Value) (a : Gt.A) (has since : Nat → Int) : Prop where
  acc : AccS w (Sx g) V a
  one : Whole w g 30 V
  has : Whole w (g + 1) 41 (nine has).toArray
  since : Whole w (g + 1 + 1) 42 (nine since).toArray
  below : Below g w1 w
section
variable {w1 w w' : World} {g : Nat} {V : Array Value} {a : Gt.A} {has since : Nat → Int}
theorem Sto.on (h : Sto w1 w g V a has since) (hb : Below w.heap.size w w') : Sto w1 w' g V a has since :=
  ⟨h.acc.on hb, h.one.below hb h.one.lt, h.has.below hb h.has.lt, h.since.below hb h.since.lt, h.below.trans (hb.mono (Nat.le_of_lt h.one.lt))⟩
theorem Sto.put {W : Array Value} {a' : Gt.A} (h : Sto w1 w g V a has since) (hv : AccS w (Sx g) W a') : Sto w1 (w.setRow g W) g W a' has since :=
  ⟨hv.keep (by simp [World.setRow]) (fun b _ hs => setRow_other w g b _ hs.1), h.one.row W, h.has.rowFar (by omega) W, h.since.rowFar (by omega) W, below_row h.below (Nat.le_refl _) _⟩
theorem Sto.set8 (h : Sto w1 w g V a has since) {s : Nat} {x : Int} : Sto w1 (w.setCell ⟨g + 1, s, none⟩ (.int .i64 x)) g V a (Gt.upd has s x) since := by
  have e := nine_set (f := has) (f' := Gt.upd has s x) (x := s) (fun y _ hne => Gt.upd_ne _ _ hne)
  rw [Gt.upd_same] at e
  refine ⟨h.acc.keep (by simp [World.setCell]) (fun b _ hs => heap_setCell_other _ _ _ _ hs.2.1), h.one.far (by show g ≠ g + 1; omega) _, ?_, h.since.far (by show g + 1 + 1 ≠ g + 1; omega) _, h.below.setCell (by show g ≤ g + 1; omega) _⟩
  rw [← e]
  exact h.has.set s _
theorem Sto.set9 (h : Sto w1 w g V a has since) {s : Nat} {x : Int} : Sto w1 (w.setCell ⟨g + 1 + 1, s, none⟩ (.int .i64 x)) g V a has (Gt.upd since s x) := by
  have e := nine_set (f := since) (f' := Gt.upd since s x) (x := s) (fun y _ hne => Gt.upd_ne _ _ hne)
  rw [Gt.upd_same] at e
  refine ⟨h.acc.keep (by simp [World.setCell]) (fun b _ hs => heap_setCell_other _ _ _ _ hs.2.2), h.one.far (by show g ≠ g + 1 + 1; omega) _, h.has.far (by show g + 1 ≠ g + 1 + 1; omega) _, ?_, h.below.setCell (by show g ≤ g + 1 + 1; omega) _⟩
  rw [← e]
  exact h.since.set s _
theorem Sto.h (h : Sto w1 w g V a has since) {s : Nat} (hs : s < 9) : w.cell? ⟨g + 1, s, none⟩ = some (.int .i64 (has s)) := by
  have := h.has.cell s
  rw [List.getElem?_toArray, nine_get _ hs] at this
  exact this
theorem Sto.i (h : Sto w1 w g V a has since) {s : Nat} (hs : s < 9) : w.cell? ⟨g + 1 + 1, s, none⟩ = some (.int .i64 (since s)) := by
  have := h.since.cell s
  rw [List.getElem?_toArray, nine_get _ hs] at this
  exact this
end
set_option maxHeartbeats 8000000 in
theorem one_walk (hg : Grs) (hw : Awake) {w : World} {S S' : Nat → Prop} {C : Array Value} {p : Dr.P} (h : Cc w S C p) {sa : Option Addr} {n c : Nat} {l : List Cl} (hs : CE.Row w S' sa n l) :
    Calls Try.prog 4 #[.agg C, .slice sa n c] w fun e w' => e = .returned (.bool true) ∧ Below w.heap.size w w' := by
  have h11 := h.size
  have HG := Lib.hid hg
  have HA := Lib.hid hw
  have HK : Hid (Pl (w.alloc (.cells C 24)) w.heap.size C p ∧ CE.Row (w.alloc (.cells C 24)) Any sa n l ∧ Below w.heap.size w (w.alloc (.cells C 24))) := Lib.hid ⟨Pl.new h, hs.any.on (below_alloc w _), below_alloc w _⟩
  clear hg hw h hs
  go_enter Try.func4, Try.ntmps4
  go_upto_region 1 with fail
  generalize w.alloc (.cells C 24) = w1 at *
  go_wp2_with fail
  refine (HA.out w1).mono ?_
  rintro e w2 ⟨rfl, hb⟩
  have HK := Lib.hid (And.intro (HK.out.1.on hb) (And.intro (HK.out.2.1.on hb) (HK.out.2.2.trans (hb.mono HK.out.2.2.size))))
  clear hb
  go_wp2_with (first | ((with_reducible show wpList _ _ _ ((⟨some 18, Op.load 24 (.tmp 2), _, _, _, _⟩ : Oper) :: _) _ _); refine wpList_load_rowG (by rfl) _ (.tmp 2) rfl w.heap.size rfl 24 C (0, 0) _ HK.out.1.1 Try.underlying24 rfl (by rw [h11]; exact info11) ?_) | fail)
  refine (few_any HK.out.1.2).mono ?_
  rintro e w3 ⟨rfl, hb⟩
  have HK := Lib.hid (And.intro (HK.out.1.on hb) (And.intro (HK.out.2.1.on hb) (HK.out.2.2.trans (hb.mono HK.out.2.2.size))))
  clear hb
  obtain ⟨fw, hfw⟩ : ∃ b, few p = b := ⟨_, rfl⟩
  rw [hfw]
  clear hfw
  cases fw
  case false =>
    go_wp2
    go_ret
    exact ⟨rfl, HK.out.2.2⟩
  go_wp2_with (first | ((with_reducible show wpList _ _ _ ((⟨some 22, Op.load 24 (.tmp 2), _, _, _, _⟩ : Oper) :: _) _ _); refine wpList_load_rowG (by rfl) _ (.tmp 2) rfl w.heap.size rfl 24 C (0, 0) _ HK.out.1.1 Try.underlying24 rfl (by rw [h11]; exact info11) ?_) | fail)
  refine (check_any HK.out.1.2).mono ?_
  rintro e w3' ⟨rfl, hb⟩
  have HK := Lib.hid (And.intro (HK.out.1.on hb) (And.intro (HK.out.2.1.on hb) (HK.out.2.2.trans (hb.mono HK.out.2.2.size))))
  clear hb
  by_cases hok : p.ok
  case neg =>
    rw [Dr.P.chk_no hok]
    clear hok
    go_wp2
    go_ret
    exact ⟨rfl, HK.out.2.2⟩
  rw [Dr.P.chk_ok hok]
  obtain ⟨K, hK⟩ : ∃ K : Nat, p.slots = (K : Int) := ⟨p.slots.toNat, by have := hok.2.1.1; omega⟩
  have hK9 : 1 ≤ K ∧ K ≤ 9 := by have h1 := hok.2.1; have h2 := hok.1; unfold Dr.P.g1 at h1; unfold Dr.P.g0 at h2; omega
  obtain ⟨gr, hgr⟩ : ∃ gr, p.grant = gr := ⟨_, rfl⟩
  have HP := Lib.hid (And.intro hok (And.intro hK hgr))
  clear hok hK hgr
  go_wp2_with (first | ((with_reducible show wpList _ _ _ ((⟨some 26, Op.load 24 (.tmp 2), _, _, _, _⟩ : Oper) :: _) _ _); refine wpList_load_rowG (by rfl) _ (.tmp 2) rfl w.heap.size rfl 24 C (0, 0) _ HK.out.1.1 Try.underlying24 rfl (by rw [h11]; exact info11) ?_) | fail)
  refine (HG.out.new HK.out.1.2 0 (in_lit (by omega))).mono ?_
  rintro e w4 ⟨V4, rfl, ha, hb⟩
  have HK := Lib.hid (And.intro (HK.out.1.on hb) (And.intro (HK.out.2.1.on hb) (HK.out.2.2.trans (hb.mono HK.out.2.2.size))))
  have h6 := ha.acc.size
  have h6o := ha.acc.one
  have HA4 := Lib.hid (ha.weak (S' := Sx w4.heap.size) (fun b hb _ => ⟨by omega, by omega, by omega⟩))
  clear ha hb
  go_upto_region 8 with (first | ((with_reducible show wpList _ _ _ ((⟨_, Op.store 30 (.tmp 7) _, _, _, _, _⟩ : Oper) :: _) _ _); refine wpList_store_row rfl 30 (.tmp 7) (.tmp 28) rfl w4.heap.size V4 rfl rfl 30 az (Whole.new w4 30 az) (by rw [h6]; exact info_acc) (by rw [h6]; rfl) h6o ?_) | fail)
  rw [← az_is]
  have H5 : Hid (AccS ((w4.alloc (.cells az 30)).setRow w4.heap.size V4) (Sx w4.heap.size) V4 (Gt.new p 0) ∧ Whole ((w4.alloc (.cells az 30)).setRow w4.heap.size V4) w4.heap.size 30 V4 ∧ Below w4.heap.size w4 ((w4.alloc (.cells az 30)).setRow w4.heap.size V4)) := Lib.hid (by
    have hb : Below w4.heap.size w4 ((w4.alloc (.cells az 30)).setRow w4.heap.size V4) := below_row (below_alloc w4 _) (Nat.le_refl _) _
    exact ⟨HA4.out.on hb, (Whole.new w4 _ _).row V4, hb⟩)
  have hs5 : ((w4.alloc (.cells az 30)).setRow w4.heap.size V4).heap.size = w4.heap.size + 1 := by simp [World.setRow]
  clear HA4 h6 h6o
  generalize (w4.alloc (.cells az 30)).setRow w4.heap.size V4 = w5 at *
  have HS5 := Lib.hid hs5
  have hz := Whole.new w5 41 (nine fun _ => 0).toArray
  rw [zero_n9, hs5] at hz
  clear hs5
  go_upto_region 9 with (first | ((with_reducible show wpList _ _ _ ((⟨_, Op.build 41 _, _, _, _, _⟩ : Oper) :: _) _ _); refine wpList_built rfl _ rfl [] rfl (nine fun _ => 0) built_h9 ?_) | ((with_reducible show wpList _ _ _ ((⟨_, Op.store 41 _ _, _, _, _, _⟩ : Oper) :: _) _ _); rw [HS5.out]; refine wpList_store_row rfl 41 (.tmp 8) (.tmp 29) rfl (w4.heap.size + 1) (nine fun _ => 0).toArray rfl rfl 41 _ hz info_h9 rfl (by kernel_rfl) ?_) | fail)
  have H6 : Hid (AccS ((w5.alloc (.cells #[.int .i64 0, .int .i64 0, .int .i64 0, .int .i64 0, .int .i64 0, .int .i64 0, .int .i64 0, .int .i64 0, .int .i64 0] 41)).setRow (w4.heap.size + 1) (nine fun _ => 0).toArray) (Sx w4.heap.size) V4 (Gt.new p 0) ∧ Whole ((w5.alloc (.cells #[.int .i64 0, .int .i64 0, .int .i64 0, .int .i64 0, .int .i64 0, .int .i64 0, .int .i64 0, .int .i64 0, .int .i64 0] 41)).setRow (w4.heap.size + 1) (nine fun _ => 0).toArray) w4.heap.size 30 V4 ∧ Whole ((w5.alloc (.cells #[.int .i64 0, .int .i64 0, .int .i64 0, .int .i64 0, .int .i64 0, .int .i64 0, .int .i64 0, .int .i64 0, .int .i64 0] 41)).setRow (w4.heap.size + 1) (nine fun _ => 0).toArray) (w4.heap.size + 1) 41 (nine fun _ => 0).toArray ∧ Below w4.heap.size w4 ((w5.alloc (.cells #[.int .i64 0, .int .i64 0, .int .i64 0, .int .i64 0, .int .i64 0, .int .i64 0, .int .i64 0, .int .i64 0, .int .i64 0] 41)).setRow (w4.heap.size + 1) (nine fun _ => 0).toArray)) := Lib.hid (by
    have hb : Below w5.heap.size w5 ((w5.alloc (.cells #[.int .i64 0, .int .i64 0, .int .i64 0, .int .i64 0, .int .i64 0, .int .i64 0, .int .i64 0, .int .i64 0, .int .i64 0] 41)).setRow (w4.heap.size + 1) (nine fun _ => 0).toArray) := below_row (below_alloc w5 _) (by rw [HS5.out]; exact Nat.le_refl _) _
    exact ⟨H5.out.1.on hb, H5.out.2.1.below hb H5.out.2.1.lt, hz.row _, H5.out.2.2.trans (hb.mono (by rw [HS5.out]; omega))⟩)
  have hs6 : ((w5.alloc (.cells #[.int .i64 0, .int .i64 0, .int .i64 0, .int .i64 0, .int .i64 0, .int .i64 0, .int .i64 0, .int .i64 0, .int .i64 0] 41)).setRow (w4.heap.size + 1) (nine fun _ => 0).toArray).heap.size = w4.heap.size + 1 + 1 := by simp [World.setRow, HS5.out]
  clear H5 HS5 hz
  generalize (w5.alloc (.cells #[.int .i64 0, .int .i64 0, .int .i64 0, .int .i64 0, .int .i64 0, .int .i64 0, .int .i64 0, .int .i64 0, .int .i64 0] 41)).setRow (w4.heap.size + 1) (nine fun _ => 0).toArray = w6 at *
  have HS6 := Lib.hid hs6
  have hz := Whole.new w6 42 (nine fun _ => 0).toArray
  rw [zero_n9, hs6] at hz
  clear hs6
  go_upto_region 10 with (first | ((with_reducible show wpList _ _ _ ((⟨_, Op.build 42 _, _, _, _, _⟩ : Oper) :: _) _ _); refine wpList_built rfl _ rfl [] rfl (nine fun _ => 0) built_s9 ?_) | ((with_reducible show wpList _ _ _ ((⟨_, Op.store 42 _ _, _, _, _, _⟩ : Oper) :: _) _ _); rw [HS6.out]; refine wpList_store_row rfl 42 (.tmp 9) (.tmp 30) rfl (w4.heap.size + 1 + 1) (nine fun _ => 0).toArray rfl rfl 42 _ hz info_s9 rfl (by kernel_rfl) ?_) | fail)
  have H7 : Hid (Sto w4 ((w6.alloc (.cells #[.int .i64 0, .int .i64 0, .int .i64 0, .int .i64 0, .int .i64 0, .int .i64 0, .int .i64 0, .int .i64 0, .int .i64 0] 42)).setRow (w4.heap.size + 1 + 1) (nine fun _ => 0).toArray) w4.heap.size V4 (Gt.new p 0) (fun _ => 0) (fun _ => 0)) := Lib.hid (by
    have hb : Below w6.heap.size w6 ((w6.alloc (.cells #[.int .i64 0, .int .i64 0, .int .i64 0, .int .i64 0, .int .i64 0, .int .i64 0, .int .i64 0, .int .i64 0, .int .i64 0] 42)).setRow (w4.heap.size + 1 + 1) (nine fun _ => 0).toArray) := below_row (below_alloc w6 _) (by rw [HS6.out]; exact Nat.le_refl _) _
    exact ⟨H6.out.1.on hb, H6.out.2.1.below hb H6.out.2.1.lt, H6.out.2.2.1.below hb H6.out.2.2.1.lt, hz.row _, H6.out.2.2.2.trans (hb.mono (by rw [HS6.out]; omega))⟩)
  clear H6 HS6 hz
  generalize (w6.alloc (.cells #[.int .i64 0, .int .i64 0, .int .i64 0, .int .i64 0, .int .i64 0, .int .i64 0, .int .i64 0, .int .i64 0, .int .i64 0] 42)).setRow (w4.heap.size + 1 + 1) (nine fun _ => 0).toArray = w7 at *
  go_wp2
  go_loopw [10] (fun v wr => ∃ j : Nat, j ≤ 9 ∧ v = .int .i64 (j : Int) ∧ Hid (Sto w4 wr w4.heap.size V4 (Gt.new p 0) (fun x => if x < j then -1 else 0) (fun _ => 0))) (fun v _ => 9 - (intOf v).toNat)
  case atStart => exact ⟨0, Nat.zero_le _, rfl, H7⟩
  case round =>
    clear H7
    obtain ⟨j, hj, rfl, HJ⟩ := hrel
    by_cases hlt : j < 9
    · have q1 : (j : Int) < 9 := by omega
      have c1 := HJ.out.h hlt
      have f1 : wr.frozen? ⟨w4.heap.size + 1, j, none⟩ = false := HJ.out.has.frozen j
      have hW := HJ.out.set8 (s := j) (x := -1)
      have e : Gt.upd (fun x => if x < j then (-1 : Int) else 0) j (-1) = fun x => if x < j + 1 then -1 else 0 := by
        funext x
        unfold Gt.upd
        by_cases e : x = j
        · rw [if_pos e, if_pos (by omega)]
        · rw [if_neg e]
          dsimp only
          by_cases e2 : x < j
          · rw [if_pos e2, if_pos (by omega)]
          · rw [if_neg e2, if_neg (by omega)]
      rw [e] at hW
      have HV := Lib.hid hW
      clear hW e
      go_wp2
      exact ⟨⟨j + 1, by omega, by go_num, HV⟩, by simp [intOf] <;> omega⟩
    · obtain rfl : j = 9 := by omega
      have q1 : ¬ (((9 : Nat) : Int) < 9) := by omega
      have H0 : Hid (∃ V a has since, Sto w4 wr w4.heap.size V a has since ∧ Gt.Inv p a has since 0 ∧ ∀ k, 0 ≤ since k) := Lib.hid ⟨V4, Gt.new p 0, fun x => if x < 9 then -1 else 0, fun _ => 0, HJ.out, by
        have h := Gt.inv_first HP.out.1
        refine ⟨h.len, h.boot, fun s hs => ⟨Int.le_refl _, fun h0 => ?_⟩⟩
        have : s < 9 := by rw [HP.out.2.1] at hs; omega
        rw [if_pos this] at h0
        omega, fun _ => Int.le_refl _⟩
      clear HJ
      go_wp2
      go_loopw [6, 11] (fun vn vi wr => ∃ (i : Nat) (now : Int), i ≤ 60 ∧ vi = .int .i64 (i : Int) ∧ vn = .int .i64 now ∧ 0 ≤ now ∧ now ≤ (i : Int) * 1099511627776 ∧ Hid (∃ V a has since, Sto w4 wr w4.heap.size V a has since ∧ Gt.Inv p a has since now ∧ ∀ k, 0 ≤ since k)) (fun _ vi _ => 60 - (intOf vi).toNat)
      case atStart => exact ⟨0, 0, by omega, rfl, rfl, by omega, by omega, H0⟩
      case round =>
        clear H0
        obtain ⟨i, now, hi, rfl, rfl, hn0, hn1, HD⟩ := hrel
        obtain ⟨V, a, has, since, hD, hI, hsi⟩ := HD.out
        have hrow := HK.out.2.1.old.below hD.below (fun _ _ h => h)
        have HD := Lib.hid hD
        have HV := Lib.hid (And.intro hI hsi)
        clear hD hI hsi
        by_cases hin : (i : Int) < (n : Int)
        case neg =>
          go_wp2
          go_ret
          exact ⟨rfl, HK.out.2.2.trans (HD.out.below.mono HK.out.2.2.size)⟩
        by_cases hi60 : (i : Int) < 60
        case neg =>
          go_wp2
          go_ret
          exact ⟨rfl, HK.out.2.2.trans (HD.out.below.mono HK.out.2.2.size)⟩
        obtain ⟨b, off, rfl, _, _, hrg⟩ := hrow.at_ (k := i) (by omega)
        have hok := hrow.in_ (k := i) (by omega)
        obtain ⟨x, hx⟩ : ∃ x, l.getD i CE.z = x := ⟨_, rfl⟩
        have e5 : CE.K = 5 := rfl
        rw [hx, e5] at hrg
        rw [hx] at hok
        obtain ⟨kd, sl, nd, nc, ah⟩ := x
        have HI : Hid (In64 kd ∧ In64 sl ∧ In64 nd ∧ In64 nc ∧ In64 ah) := Lib.hid hok
        have d0 : wr.cell? ⟨b, off + i * 5, none⟩ = some (.int .i64 kd) := hrg 0 _ rfl
        have d1 : wr.cell? ⟨b, off + i * 5 + 1, none⟩ = some (.int .i64 sl) := hrg 1 _ rfl
        have d2 : wr.cell? ⟨b, off + i * 5 + 2, none⟩ = some (.int .i64 nd) := hrg 2 _ rfl
        have d3 : wr.cell? ⟨b, off + i * 5 + 3, none⟩ = some (.int .i64 nc) := hrg 3 _ rfl
        have d4 : wr.cell? ⟨b, off + i * 5 + 4, none⟩ = some (.int .i64 ah) := hrg 4 _ rfl
        clear hrow hrg hok hx e5
        go_upto_region 18 with (first | ((with_reducible show wpList _ _ _ ((⟨_, Op.store 33 (.tmp 12) _, _, _, _, _⟩ : Oper) :: _) _ _); refine wpList_store_row rfl 33 (.tmp 12) (.tmp 50) rfl wr.heap.size (ccs ⟨kd, sl, nd, nc, ah⟩).toArray rfl rfl 33 cz.toArray (Whole.new wr 33 cz.toArray) info_cl rfl (ccs_one _) ?_) | fail)
        rw [← cz_is]
        obtain ⟨wk, hwk⟩ : ∃ wk, (wr.alloc (.cells cz.toArray 33)).setRow wr.heap.size (ccs ⟨kd, sl, nd, nc, ah⟩).toArray = wk := ⟨_, rfl⟩
        have hWk : Whole wk wr.heap.size 33 (ccs ⟨kd, sl, nd, nc, ah⟩).toArray := by rw [← hwk]; exact (Whole.new wr _ _).row _
        have hbk : Below wr.heap.size wr wk := by rw [← hwk]; exact below_row (below_alloc wr _) (Nat.le_refl _) _
        rw [hwk]
        obtain ⟨gk, hgk⟩ : ∃ gk, wr.heap.size = gk := ⟨_, rfl⟩
        have hgl : w4.heap.size + 1 + 1 < gk := by rw [← hgk]; exact HD.out.since.lt
        have HD := Lib.hid (HD.out.on hbk)
        rw [hgk] at hWk ⊢
        have HW := Lib.hid hWk
        have HGL := Lib.hid hgl
        have k4 : wk.cell? ⟨gk, 4, none⟩ = some (.int .i64 ah) := hWk.cell 4
        clear hwk hWk hbk hgk hgl d0 d1 d2 d3 d4
        obtain ⟨now2, hnow2⟩ : ∃ now2, (if 0 < ah ∧ ah < 1099511627776 then now + ah else now) = now2 := ⟨_, rfl⟩
        have hn2 : 0 ≤ now2 ∧ now2 ≤ ((i + 1 : Nat) : Int) * 1099511627776 := by rw [← hnow2]; split <;> constructor <;> omega
        have hnn : now ≤ now2 := by rw [← hnow2]; split <;> omega
        have HV : Hid (Gt.Inv p a has since now2 ∧ ∀ k, 0 ≤ since k) := Lib.hid ⟨HV.out.1.mono hnn, HV.out.2⟩
        have hi60' : i ≤ 59 := by omega
        try simp only [Act.put, List.getElem_toArray, List.getElem_cons_zero, List.getElem_cons_succ, List.setIfInBounds_toArray, List.set_cons_zero, List.set_cons_succ]
        obtain ⟨bb, hbb⟩ : ∃ bb, decide (0 < ah ∧ ah < 1099511627776) = bb := ⟨_, rfl⟩
        go_cut [58] (fun v wx => v = .bool bb ∧ wx = wk)
        case first => as_aux_lemma =>
          by_cases y1 : ah > 0
          · by_cases y2 : ah < 1099511627776
            · have eb : bb = true := by rw [← hbb]; exact decide_eq_true ⟨y1, y2⟩
              clear hbb
              subst eb
              go_wp2
              go_meet
              case rel => exact ⟨rfl, rfl⟩
            · have y2' : decide (ah < 1099511627776) = false := decide_eq_false y2
              have eb : bb = false := by rw [← hbb]; exact decide_eq_false fun h => y2 h.2
              clear hbb
              subst eb
              go_wp2
              go_meet
              case rel => exact ⟨rfl, rfl⟩
          · have y1' : decide (0 < ah) = false := decide_eq_false y1
            have eb : bb = false := by rw [← hbb]; exact decide_eq_false fun h => y1 h.1
            clear hbb
            subst eb
            go_wp2
            go_meet
            case rel => exact ⟨rfl, rfl⟩
        case rest =>
        obtain ⟨rfl, rfl⟩ := hcut
        go_upto_if 58 with fail
        go_cut [6] (fun v wx => v = .int .i64 now2 ∧ wx = wc)
        case first => as_aux_lemma =>
          cases bb with
          | true =>
            have hc := of_decide_eq_true hbb
            have ew : IntKind.i64.wrap (now + ah) = now2 := by rw [← hnow2, if_pos hc, IntKind.wrap_i64]; omega
            clear hnow2 hbb hc
            go_wp2
            go_meet
            case rel => exact ⟨rfl, rfl⟩
          | false =>
            have hc := of_decide_eq_false hbb
            have en : now = now2 := by rw [← hnow2, if_neg hc]
            clear hnow2 hbb hc
            subst en
            go_wp2
            go_meet
            case rel => exact ⟨rfl, rfl⟩
        case rest =>
        obtain ⟨rfl, rfl⟩ := hcut
        clear hbb hnow2 hn0 hn1 k4 hnn
        have HN : Hid (In64 now2) := Lib.hid ⟨by omega, by omega⟩
        by_cases y1 : kd = 1
        · as_aux_lemma =>
            subst y1
            have k0 : wc.cell? ⟨gk, 0, none⟩ = some (.int .i64 1) := HW.out.cell 0
            have k1 : wc.cell? ⟨gk, 1, none⟩ = some (.int .i64 sl) := HW.out.cell 1
            have k2 : wc.cell? ⟨gk, 2, none⟩ = some (.int .i64 nd) := HW.out.cell 2
            have k3 : wc.cell? ⟨gk, 3, none⟩ = some (.int .i64 nc) := HW.out.cell 3
            have hp := HK.out.1.on HD.out.below
            have z1 := HD.out.acc.acc.size
            go_wp2_with (first | ((with_reducible show wpList _ _ _ ((⟨some 68, Op.load 24 (.tmp 2), _, _, _, _⟩ : Oper) :: _) _ _); refine wpList_load_rowG (by rfl) _ (.tmp 2) rfl w.heap.size rfl 24 C (0, 0) _ hp.1 Try.underlying24 rfl (by rw [h11]; exact info11) ?_) | ((with_reducible show wpList _ _ _ ((⟨some 69, Op.load 30 (.tmp 7), _, _, _, _⟩ : Oper) :: _) _ _); refine wpList_load_rowG (by rfl) _ (.tmp 7) rfl w4.heap.size rfl 30 V (0, 0) _ HD.out.one Try.underlying30 rfl (by rw [z1]; exact info_acc) ?_) | fail)
            refine (HG.out.ask hp.2 HD.out.acc sl nd nc now2 HI.out.2.1 HI.out.2.2.1 HI.out.2.2.2.1 HN.out).mono ?_
            rintro e wA ⟨Va, rfl, ha, hb⟩
            have ha := ha.weak (S' := Sx w4.heap.size) (fun b _ hs => hs.elim id (fun h => by have h1 := HD.out.since.lt; exact ⟨by omega, by omega, by omega⟩))
            have h6 := ha.acc.size
            have h6o := ha.acc.one
            have HA1 := Lib.hid (And.intro ha (And.intro (HD.out.on hb) (HW.out.below hb HW.out.lt)))
            clear ha hb hp z1 k0 k1 k2 k3
            go_upto_region 23 with (first | ((with_reducible show wpList _ _ _ ((⟨_, Op.store 30 (.tmp 13) _, _, _, _, _⟩ : Oper) :: _) _ _); refine wpList_store_row rfl 30 (.tmp 13) (.tmp 78) rfl wA.heap.size Va rfl rfl 30 az (Whole.new wA 30 az) (by rw [h6]; exact info_acc) (by rw [h6]; rfl) h6o ?_) | fail)
            rw [← az_is]
            have HB : Hid (Sto w4 ((wA.alloc (.cells az 30)).setRow wA.heap.size Va) w4.heap.size V a has since ∧ Whole ((wA.alloc (.cells az 30)).setRow wA.heap.size Va) wA.heap.size 30 Va ∧ AccS ((wA.alloc (.cells az 30)).setRow wA.heap.size Va) (Sx w4.heap.size) Va (Gt.ask p a sl nd nc now2).1 ∧ Whole ((wA.alloc (.cells az 30)).setRow wA.heap.size Va) gk 33 (ccs ⟨1, sl, nd, nc, ah⟩).toArray) := Lib.hid (by
              have hb : Below wA.heap.size wA ((wA.alloc (.cells az 30)).setRow wA.heap.size Va) := below_row (below_alloc wA _) (Nat.le_refl _) _
              exact ⟨HA1.out.2.1.on hb, (Whole.new wA _ _).row Va, HA1.out.1.on hb, HA1.out.2.2.below hb HA1.out.2.2.lt⟩)
            have HGB : Hid (gk < wA.heap.size) := Lib.hid HA1.out.2.2.lt
            clear HA1 h6 h6o
            generalize (wA.alloc (.cells az 30)).setRow wA.heap.size Va = wB at *
            obtain ⟨gB, hgB⟩ : ∃ gB, wA.heap.size = gB := ⟨_, rfl⟩
            rw [hgB] at HB HGB ⊢
            have HGB : Hid (w4.heap.size + 1 + 1 < gB) := Lib.hid (Nat.lt_trans HGL.out HGB.out)
            clear hgB
            by_cases hgt : Gt.grants p a sl nd nc now2
            case neg =>
              rw [Gt.ask_no hgt]
              clear hgt
              have HE : Hid (Sto w4 wB w4.heap.size V a has since) := Lib.hid HB.out.1
              clear HB
              have HZ : Hid (∃ V a has since, Sto w4 wB w4.heap.size V a has since ∧ Gt.Inv p a has since now2 ∧ ∀ k, 0 ≤ since k) := Lib.hid ⟨_, _, _, _, HE.out, HV.out.1, HV.out.2⟩
              clear HE
              go_wp2
              exact ⟨⟨i + 1, now2, by omega, by go_num, rfl, hn2.1, hn2.2, HZ⟩, by simp [intOf] <;> omega⟩
            rw [Gt.ask_yes hgt] at HB ⊢
            obtain ⟨s, hs⟩ : ∃ s : Nat, sl = (s : Int) := ⟨sl.toNat, by have := hgt.1.2.2.1; omega⟩
            subst hs
            have hsK : (s : Int) < (K : Int) := by have := hgt.1.2.2.2; rw [HP.out.2.1] at this; exact this
            have hinv := Gt.inv_ask HV.out.1 hgt
            have hsi0 : 0 ≤ since s ∧ since s ≤ now2 := ⟨HV.out.2 s, (HV.out.1.at_ s (by rw [HP.out.2.1]; exact hsK)).1⟩
            have HVO : Hid (∀ k, 0 ≤ since k) := Lib.hid HV.out.2
            have HV : Hid (Gt.Inv p (Gt.put a (s : Int) ⟨nd, nc, now2⟩) (Gt.upd has s nd) (Gt.upd since s now2) now2 ∧ ∀ k, 0 ≤ Gt.upd since s now2 k) := Lib.hid ⟨hinv.2, fun k => by
              unfold Gt.upd
              split
              · exact hn2.1
              · exact HVO.out k⟩
            obtain ⟨h, hh⟩ : ∃ h, has s = h := ⟨_, rfl⟩
            obtain ⟨si, hsi⟩ : ∃ si, since s = si := ⟨_, rfl⟩
            have hs9 : s < 9 := by omega
            have hp := HK.out.1.on HB.out.1.below
            have j1 : wB.drew.cell? ⟨gk, 1, none⟩ = some (.int .i64 (s : Int)) ∧ wB.drew.cell? ⟨gk, 2, none⟩ = some (.int .i64 nd) ∧ wB.drew.cell? ⟨w.heap.size, 1, none⟩ = some (.int .i64 (K : Int)) ∧ wB.drew.cell? ⟨w.heap.size, 4, none⟩ = some (.int .i64 gr) ∧ wB.drew.cell? ⟨w4.heap.size + 1, s, none⟩ = some (.int .i64 h) ∧ wB.drew.cell? ⟨w4.heap.size + 1 + 1, s, none⟩ = some (.int .i64 si) :=
              ⟨HB.out.2.2.2.cell 1, HB.out.2.2.2.cell 2, by rw [← HP.out.2.1]; exact hp.cells.2.1, by rw [← HP.out.2.2]; exact hp.cells.2.2, by rw [← hh]; exact HB.out.1.h hs9, by rw [← hsi]; exact HB.out.1.i hs9⟩
            have hno := hinv.1
            rw [hh, hsi, HP.out.2.2] at hno
            rw [hsi] at hsi0
            have HNO := Lib.hid hno
            clear hinv hno hh hsi hp
            go_upto_region 24 with fail
            have y0 : ¬ ((s : Int) < 0) := by omega
            have y1 : ¬ ((s : Int) ≥ (K : Int)) := by omega
            have y2 : (s : Int) < 9 := by omega
            refine wp_region_held_drew (S := fun wq => wq.cell? ⟨gk, 1, none⟩ = some (.int .i64 (s : Int)) ∧ wq.cell? ⟨gk, 2, none⟩ = some (.int .i64 nd) ∧ wq.cell? ⟨w.heap.size, 1, none⟩ = some (.int .i64 (K : Int)) ∧ wq.cell? ⟨w.heap.size, 4, none⟩ = some (.int .i64 gr) ∧ wq.cell? ⟨w4.heap.size + 1, s, none⟩ = some (.int .i64 h) ∧ wq.cell? ⟨w4.heap.size + 1 + 1, s, none⟩ = some (.int .i64 si)) (by kernel_rfl) j1 (fun hHeld => ?_)
            by_cases zh : h ≥ 0
            · by_cases zn : h = nd
              · have q1 : (h != nd) = false := by simp [zn]
                clear zn
                refine wpAnyH_take (i := 0) (v := .pointer (some ⟨gk, 1, none⟩)) rfl (by kernel_rfl) (by kernel_rfl) (by kernel_rfl) (fun _ _ _ h => h) (Or.inl ⟨by rfl, (by intro w hSw; (try dsimp only at hSw); go_simp)⟩) (by assumption) ?_
                try simp only [Act.put, List.getElem_toArray, List.getElem_cons_zero, List.getElem_cons_succ, List.setIfInBounds_toArray, List.set_cons_zero, List.set_cons_succ]
                refine wpAnyH_take (i := 1) (v := .int .i64 (s : Int)) rfl (by kernel_rfl) (by kernel_rfl) (by kernel_rfl) (fun _ _ _ h => h) (Or.inl ⟨by rfl, (by intro wq hSw; have hq := hSw.1; clear hSw; go_simp)⟩) (by assumption) ?_
                try simp only [Act.put, List.getElem_toArray, List.getElem_cons_zero, List.getElem_cons_succ, List.setIfInBounds_toArray, List.set_cons_zero, List.set_cons_succ]
                refine wpAnyH_take (i := 2) (v := .bool false) rfl (by kernel_rfl) (by kernel_rfl) (by kernel_rfl) (fun _ _ _ h => h) (Or.inl ⟨by rfl, (by intro w hSw; (try dsimp only at hSw); go_simp)⟩) (by assumption) ?_
                try simp only [Act.put, List.getElem_toArray, List.getElem_cons_zero, List.getElem_cons_succ, List.setIfInBounds_toArray, List.set_cons_zero, List.set_cons_succ]
                refine wpAnyH_take (i := 3) (v := .bool false) rfl (by kernel_rfl) (by kernel_rfl) (by kernel_rfl) (fun _ _ _ h => h) (Or.inl ⟨by rfl, (by intro w hSw; (try dsimp only at hSw); go_simp)⟩) (by assumption) ?_
                try simp only [Act.put, List.getElem_toArray, List.getElem_cons_zero, List.getElem_cons_succ, List.setIfInBounds_toArray, List.set_cons_zero, List.set_cons_succ]
                refine wpAnyH_take (i := 4) (v := .pointer (some ⟨gk, 1, none⟩)) rfl (by kernel_rfl) (by kernel_rfl) (by kernel_rfl) (fun _ _ _ h => h) (Or.inl ⟨by rfl, (by intro w hSw; (try dsimp only at hSw); go_simp)⟩) (by assumption) ?_
                try simp only [Act.put, List.getElem_toArray, List.getElem_cons_zero, List.getElem_cons_succ, List.setIfInBounds_toArray, List.set_cons_zero, List.set_cons_succ]
                refine wpAnyH_take (i := 5) (v := .int .i64 (s : Int)) rfl (by kernel_rfl) (by kernel_rfl) (by kernel_rfl) (fun _ _ _ h => h) (Or.inl ⟨by rfl, (by intro wq hSw; have hq := hSw.1; clear hSw; go_simp)⟩) (by assumption) ?_
                try simp only [Act.put, List.getElem_toArray, List.getElem_cons_zero, List.getElem_cons_succ, List.setIfInBounds_toArray, List.set_cons_zero, List.set_cons_succ]
                refine wpAnyH_take (i := 6) (v := .pointer (some ⟨w.heap.size, 1, none⟩)) rfl (by kernel_rfl) (by kernel_rfl) (by kernel_rfl) (fun _ _ _ h => h) (Or.inl ⟨by rfl, (by intro w hSw; (try dsimp only at hSw); go_simp)⟩) (by assumption) ?_
                try simp only [Act.put, List.getElem_toArray, List.getElem_cons_zero, List.getElem_cons_succ, List.setIfInBounds_toArray, List.set_cons_zero, List.set_cons_succ]
                refine wpAnyH_take (i := 7) (v := .int .i64 (K : Int)) rfl (by kernel_rfl) (by kernel_rfl) (by kernel_rfl) (fun _ _ _ h => h) (Or.inl ⟨by rfl, (by intro wq hSw; have hq := hSw.2.2.1; clear hSw; go_simp)⟩) (by assumption) ?_
                try simp only [Act.put, List.getElem_toArray, List.getElem_cons_zero, List.getElem_cons_succ, List.setIfInBounds_toArray, List.set_cons_zero, List.set_cons_succ]
                refine wpAnyH_take (i := 8) (v := .bool false) rfl (by kernel_rfl) (by kernel_rfl) (by kernel_rfl) (fun _ _ _ h => h) (Or.inl ⟨by rfl, (by intro w hSw; (try dsimp only at hSw); go_simp)⟩) (by assumption) ?_
                try simp only [Act.put, List.getElem_toArray, List.getElem_cons_zero, List.getElem_cons_succ, List.setIfInBounds_toArray, List.set_cons_zero, List.set_cons_succ]
                refine wpAnyH_take (i := 9) (v := .bool false) rfl (by kernel_rfl) (by kernel_rfl) (by kernel_rfl) (fun _ _ _ h => h) (Or.inl ⟨by rfl, (by intro w hSw; (try dsimp only at hSw); go_simp)⟩) (by assumption) ?_
                try simp only [Act.put, List.getElem_toArray, List.getElem_cons_zero, List.getElem_cons_succ, List.setIfInBounds_toArray, List.set_cons_zero, List.set_cons_succ]
                refine wpAnyH_take (i := 10) (v := .bool false) rfl (by kernel_rfl) (by kernel_rfl) (by kernel_rfl) (fun _ _ _ h => h) (Or.inl ⟨by rfl, (by intro w hSw; (try dsimp only at hSw); go_simp)⟩) (by assumption) ?_
                try simp only [Act.put, List.getElem_toArray, List.getElem_cons_zero, List.getElem_cons_succ, List.setIfInBounds_toArray, List.set_cons_zero, List.set_cons_succ]
                refine wpAnyH_take (i := 11) (v := .pointer (some ⟨gk, 1, none⟩)) rfl (by kernel_rfl) (by kernel_rfl) (by kernel_rfl) (fun _ _ _ h => h) (Or.inl ⟨by rfl, (by intro w hSw; (try dsimp only at hSw); go_simp)⟩) (by assumption) ?_
                try simp only [Act.put, List.getElem_toArray, List.getElem_cons_zero, List.getElem_cons_succ, List.setIfInBounds_toArray, List.set_cons_zero, List.set_cons_succ]
                refine wpAnyH_take (i := 12) (v := .int .i64 (s : Int)) rfl (by kernel_rfl) (by kernel_rfl) (by kernel_rfl) (fun _ _ _ h => h) (Or.inl ⟨by rfl, (by intro wq hSw; have hq := hSw.1; clear hSw; go_simp)⟩) (by assumption) ?_
                try simp only [Act.put, List.getElem_toArray, List.getElem_cons_zero, List.getElem_cons_succ, List.setIfInBounds_toArray, List.set_cons_zero, List.set_cons_succ]
                refine wpAnyH_take (i := 13) (v := .pointer (some ⟨w4.heap.size + 1, s, none⟩)) rfl (by kernel_rfl) (by kernel_rfl) (by kernel_rfl) (fun _ _ _ h => h) (Or.inl ⟨by rfl, (by intro w hSw; (try dsimp only at hSw); go_simp)⟩) (by assumption) ?_
                try simp only [Act.put, List.getElem_toArray, List.getElem_cons_zero, List.getElem_cons_succ, List.setIfInBounds_toArray, List.set_cons_zero, List.set_cons_succ]
                refine wpAnyH_take (i := 14) (v := .int .i64 h) rfl (by kernel_rfl) (by kernel_rfl) (by kernel_rfl) (fun _ _ _ h => h) (Or.inl ⟨by rfl, (by intro wq hSw; have hq := hSw.2.2.2.2.1; clear hSw; go_simp)⟩) (by assumption) ?_
                try simp only [Act.put, List.getElem_toArray, List.getElem_cons_zero, List.getElem_cons_succ, List.setIfInBounds_toArray, List.set_cons_zero, List.set_cons_succ]
                refine wpAnyH_take (i := 15) (v := .bool true) rfl (by kernel_rfl) (by kernel_rfl) (by kernel_rfl) (fun _ _ _ h => h) (Or.inl ⟨by rfl, (by intro w hSw; (try dsimp only at hSw); go_simp)⟩) (by assumption) ?_
                try simp only [Act.put, List.getElem_toArray, List.getElem_cons_zero, List.getElem_cons_succ, List.setIfInBounds_toArray, List.set_cons_zero, List.set_cons_succ]
                refine wpAnyH_take (i := 16) (v := .bool true) rfl (by kernel_rfl) (by kernel_rfl) (by kernel_rfl) (fun _ _ _ h => h) (Or.inl ⟨by rfl, (by intro w hSw; (try dsimp only at hSw); go_simp)⟩) (by assumption) ?_
                try simp only [Act.put, List.getElem_toArray, List.getElem_cons_zero, List.getElem_cons_succ, List.setIfInBounds_toArray, List.set_cons_zero, List.set_cons_succ]
                refine wpAnyH_take (i := 17) (v := .pointer (some ⟨gk, 1, none⟩)) rfl (by kernel_rfl) (by kernel_rfl) (by kernel_rfl) (fun _ _ _ h => h) (Or.inl ⟨by rfl, (by intro w hSw; (try dsimp only at hSw); go_simp)⟩) (by assumption) ?_
                try simp only [Act.put, List.getElem_toArray, List.getElem_cons_zero, List.getElem_cons_succ, List.setIfInBounds_toArray, List.set_cons_zero, List.set_cons_succ]
                refine wpAnyH_take (i := 18) (v := .int .i64 (s : Int)) rfl (by kernel_rfl) (by kernel_rfl) (by kernel_rfl) (fun _ _ _ h => h) (Or.inl ⟨by rfl, (by intro wq hSw; have hq := hSw.1; clear hSw; go_simp)⟩) (by assumption) ?_
                try simp only [Act.put, List.getElem_toArray, List.getElem_cons_zero, List.getElem_cons_succ, List.setIfInBounds_toArray, List.set_cons_zero, List.set_cons_succ]
                refine wpAnyH_take (i := 19) (v := .pointer (some ⟨w4.heap.size + 1, s, none⟩)) rfl (by kernel_rfl) (by kernel_rfl) (by kernel_rfl) (fun _ _ _ h => h) (Or.inl ⟨by rfl, (by intro w hSw; (try dsimp only at hSw); go_simp)⟩) (by assumption) ?_
                try simp only [Act.put, List.getElem_toArray, List.getElem_cons_zero, List.getElem_cons_succ, List.setIfInBounds_toArray, List.set_cons_zero, List.set_cons_succ]
                refine wpAnyH_take (i := 20) (v := .int .i64 h) rfl (by kernel_rfl) (by kernel_rfl) (by kernel_rfl) (fun _ _ _ h => h) (Or.inl ⟨by rfl, (by intro wq hSw; have hq := hSw.2.2.2.2.1; clear hSw; go_simp)⟩) (by assumption) ?_
                try simp only [Act.put, List.getElem_toArray, List.getElem_cons_zero, List.getElem_cons_succ, List.setIfInBounds_toArray, List.set_cons_zero, List.set_cons_succ]
                refine wpAnyH_take (i := 21) (v := .pointer (some ⟨gk, 2, none⟩)) rfl (by kernel_rfl) (by kernel_rfl) (by kernel_rfl) (fun _ _ _ h => h) (Or.inl ⟨by rfl, (by intro w hSw; (try dsimp only at hSw); go_simp)⟩) (by assumption) ?_
                try simp only [Act.put, List.getElem_toArray, List.getElem_cons_zero, List.getElem_cons_succ, List.setIfInBounds_toArray, List.set_cons_zero, List.set_cons_succ]
                refine wpAnyH_take (i := 22) (v := .int .i64 nd) rfl (by kernel_rfl) (by kernel_rfl) (by kernel_rfl) (fun _ _ _ h => h) (Or.inl ⟨by rfl, (by intro wq hSw; have hq := hSw.2.1; clear hSw; go_simp)⟩) (by assumption) ?_
                try simp only [Act.put, List.getElem_toArray, List.getElem_cons_zero, List.getElem_cons_succ, List.setIfInBounds_toArray, List.set_cons_zero, List.set_cons_succ]
                refine wpAnyH_take (i := 23) (v := .bool false) rfl (by kernel_rfl) (by kernel_rfl) (by kernel_rfl) (fun _ _ _ h => h) (Or.inl ⟨by rfl, (by intro w hSw; (try dsimp only at hSw); go_simp)⟩) (by assumption) ?_
                try simp only [Act.put, List.getElem_toArray, List.getElem_cons_zero, List.getElem_cons_succ, List.setIfInBounds_toArray, List.set_cons_zero, List.set_cons_succ]
                refine wpAnyH_take (i := 24) (v := .bool false) rfl (by kernel_rfl) (by kernel_rfl) (by kernel_rfl) (fun _ _ _ h => h) (Or.inl ⟨by rfl, (by intro w hSw; (try dsimp only at hSw); go_simp)⟩) (by assumption) ?_
                try simp only [Act.put, List.getElem_toArray, List.getElem_cons_zero, List.getElem_cons_succ, List.setIfInBounds_toArray, List.set_cons_zero, List.set_cons_succ]
                refine wpAnyH_take (i := 25) (v := .bool false) rfl (by kernel_rfl) (by kernel_rfl) (by kernel_rfl) (fun _ _ _ h => h) (Or.inl ⟨by rfl, (by intro w hSw; (try dsimp only at hSw); go_simp)⟩) (by assumption) ?_
                try simp only [Act.put, List.getElem_toArray, List.getElem_cons_zero, List.getElem_cons_succ, List.setIfInBounds_toArray, List.set_cons_zero, List.set_cons_succ]
                refine wpAnyH_take (i := 26) (v := undef) rfl (by kernel_rfl) (by kernel_rfl) (by kernel_rfl) (fun _ _ _ h => h) (Or.inr ⟨by rfl, rfl⟩) (by assumption) ?_
                try simp only [Act.put, List.getElem_toArray, List.getElem_cons_zero, List.getElem_cons_succ, List.setIfInBounds_toArray, List.set_cons_zero, List.set_cons_succ]
                refine wpAnyH_take (i := 27) (v := undef) rfl (by kernel_rfl) (by kernel_rfl) (by kernel_rfl) (fun _ _ _ h => h) (Or.inr ⟨by rfl, rfl⟩) (by assumption) ?_
                try simp only [Act.put, List.getElem_toArray, List.getElem_cons_zero, List.getElem_cons_succ, List.setIfInBounds_toArray, List.set_cons_zero, List.set_cons_succ]
                refine wpAnyH_take (i := 28) (v := undef) rfl (by kernel_rfl) (by kernel_rfl) (by kernel_rfl) (fun _ _ _ h => h) (Or.inr ⟨by rfl, rfl⟩) (by assumption) ?_
                try simp only [Act.put, List.getElem_toArray, List.getElem_cons_zero, List.getElem_cons_succ, List.setIfInBounds_toArray, List.set_cons_zero, List.set_cons_succ]
                refine wpAnyH_take (i := 29) (v := undef) rfl (by kernel_rfl) (by kernel_rfl) (by kernel_rfl) (fun _ _ _ h => h) (Or.inr ⟨by rfl, rfl⟩) (by assumption) ?_
                try simp only [Act.put, List.getElem_toArray, List.getElem_cons_zero, List.getElem_cons_succ, List.setIfInBounds_toArray, List.set_cons_zero, List.set_cons_succ]
                refine wpAnyH_take (i := 30) (v := undef) rfl (by kernel_rfl) (by kernel_rfl) (by kernel_rfl) (fun _ _ _ h => h) (Or.inr ⟨by rfl, rfl⟩) (by assumption) ?_
                try simp only [Act.put, List.getElem_toArray, List.getElem_cons_zero, List.getElem_cons_succ, List.setIfInBounds_toArray, List.set_cons_zero, List.set_cons_succ]
                refine wpAnyH_take (i := 31) (v := undef) rfl (by kernel_rfl) (by kernel_rfl) (by kernel_rfl) (fun _ _ _ h => h) (Or.inr ⟨by rfl, rfl⟩) (by assumption) ?_
                try simp only [Act.put, List.getElem_toArray, List.getElem_cons_zero, List.getElem_cons_succ, List.setIfInBounds_toArray, List.set_cons_zero, List.set_cons_succ]
                refine wpAnyH_take (i := 32) (v := undef) rfl (by kernel_rfl) (by kernel_rfl) (by kernel_rfl) (fun _ _ _ h => h) (Or.inr ⟨by rfl, rfl⟩) (by assumption) ?_
                try simp only [Act.put, List.getElem_toArray, List.getElem_cons_zero, List.getElem_cons_succ, List.setIfInBounds_toArray, List.set_cons_zero, List.set_cons_succ]
                refine wpAnyH_take (i := 33) (v := undef) rfl (by kernel_rfl) (by kernel_rfl) (by kernel_rfl) (fun _ _ _ h => h) (Or.inr ⟨by rfl, rfl⟩) (by assumption) ?_
                try simp only [Act.put, List.getElem_toArray, List.getElem_cons_zero, List.getElem_cons_succ, List.setIfInBounds_toArray, List.set_cons_zero, List.set_cons_succ]
                refine wpAnyH_take (i := 34) (v := undef) rfl (by kernel_rfl) (by kernel_rfl) (by kernel_rfl) (fun _ _ _ h => h) (Or.inr ⟨by rfl, rfl⟩) (by assumption) ?_
                try simp only [Act.put, List.getElem_toArray, List.getElem_cons_zero, List.getElem_cons_succ, List.setIfInBounds_toArray, List.set_cons_zero, List.set_cons_succ]
                refine wpAnyH_take (i := 35) (v := .bool false) rfl (by kernel_rfl) (by kernel_rfl) (by kernel_rfl) (fun _ _ _ h => h) (Or.inl ⟨by rfl, (by intro w hSw; (try dsimp only at hSw); go_simp)⟩) (by assumption) ?_
                try simp only [Act.put, List.getElem_toArray, List.getElem_cons_zero, List.getElem_cons_succ, List.setIfInBounds_toArray, List.set_cons_zero, List.set_cons_succ]
                refine wpAnyH_take (i := 36) (v := .bool false) rfl (by kernel_rfl) (by kernel_rfl) (by kernel_rfl) (fun _ _ _ h => h) (Or.inl ⟨by rfl, (by intro w hSw; (try dsimp only at hSw); go_simp)⟩) (by assumption) ?_
                try simp only [Act.put, List.getElem_toArray, List.getElem_cons_zero, List.getElem_cons_succ, List.setIfInBounds_toArray, List.set_cons_zero, List.set_cons_succ]
                refine wpAnyH_done (by kernel_rfl) ?_ _
                clear hHeld j1
                have hdr : Below wB.heap.size wB wB.drew := (Below.refl _ _).drew
                have HB : Hid (Sto w4 wB.drew w4.heap.size V a has since ∧ Whole wB.drew gB 30 Va ∧ AccS wB.drew (Sx w4.heap.size) Va (Gt.put a (s : Int) ⟨nd, nc, now2⟩) ∧ Whole wB.drew gk 33 (ccs ⟨1, (s : Int), nd, nc, ah⟩).toArray) := Lib.hid ⟨HB.out.1.on hdr, HB.out.2.1, HB.out.2.2.1.on hdr, HB.out.2.2.2⟩
                clear hdr
                generalize wB.drew = wX at *
                go_upto_region 26 with fail
                have m1 : wX.cell? ⟨gk, 1, none⟩ = some (.int .i64 (s : Int)) := HB.out.2.2.2.cell 1
                have m2 : wX.cell? ⟨gk, 2, none⟩ = some (.int .i64 nd) := HB.out.2.2.2.cell 2
                have hS := HB.out.1
                have c8 := hS.h hs9
                have f8 : wX.frozen? ⟨w4.heap.size + 1, s, none⟩ = false := hS.has.frozen s
                have HC : Hid (Sto w4 (wX.setCell ⟨w4.heap.size + 1, s, none⟩ (.int .i64 nd)) w4.heap.size V a (Gt.upd has s nd) since ∧ Whole (wX.setCell ⟨w4.heap.size + 1, s, none⟩ (.int .i64 nd)) gB 30 Va ∧ AccS (wX.setCell ⟨w4.heap.size + 1, s, none⟩ (.int .i64 nd)) (Sx w4.heap.size) Va (Gt.put a (s : Int) ⟨nd, nc, now2⟩) ∧ Whole (wX.setCell ⟨w4.heap.size + 1, s, none⟩ (.int .i64 nd)) gk 33 (ccs ⟨1, (s : Int), nd, nc, ah⟩).toArray) := Lib.hid ⟨hS.set8, HB.out.2.1.far (p := ⟨w4.heap.size + 1, s, none⟩) (by show gB ≠ w4.heap.size + 1; have := HGB.out; omega) _, HB.out.2.2.1.keep (by simp [World.setCell]) (fun b _ hs => heap_setCell_other _ _ _ _ hs.2.1), HB.out.2.2.2.far (p := ⟨w4.heap.size + 1, s, none⟩) (by show gk ≠ w4.heap.size + 1; have := HGL.out; omega) _⟩
                clear hS
                go_upto_region 27 with fail
                generalize wX.setCell ⟨w4.heap.size + 1, s, none⟩ (.int .i64 nd) = wC at *
                clear m1 m2 c8 f8
                have m1 : wC.cell? ⟨gk, 1, none⟩ = some (.int .i64 (s : Int)) := HC.out.2.2.2.cell 1
                have c9 := HC.out.1.i hs9
                have f9 : wC.frozen? ⟨w4.heap.size + 1 + 1, s, none⟩ = false := HC.out.1.since.frozen s
                have HD2 : Hid (Sto w4 (wC.setCell ⟨w4.heap.size + 1 + 1, s, none⟩ (.int .i64 now2)) w4.heap.size V a (Gt.upd has s nd) (Gt.upd since s now2) ∧ Whole (wC.setCell ⟨w4.heap.size + 1 + 1, s, none⟩ (.int .i64 now2)) gB 30 Va ∧ AccS (wC.setCell ⟨w4.heap.size + 1 + 1, s, none⟩ (.int .i64 now2)) (Sx w4.heap.size) Va (Gt.put a (s : Int) ⟨nd, nc, now2⟩)) := Lib.hid ⟨HC.out.1.set9, HC.out.2.1.far (p := ⟨w4.heap.size + 1 + 1, s, none⟩) (by show gB ≠ w4.heap.size + 1 + 1; have := HGB.out; omega) _, HC.out.2.2.1.keep (by simp [World.setCell]) (fun b _ hs => heap_setCell_other _ _ _ _ hs.2.2)⟩
                go_upto_region 28 with fail
                generalize wC.setCell ⟨w4.heap.size + 1 + 1, s, none⟩ (.int .i64 now2) = wD at *
                clear m1 c9 f9 HC
                have za := HD2.out.2.2.acc.size
                have oa := HD2.out.2.2.acc.one
                have z7 := HD2.out.1.acc.acc.size
                have HZ : Hid (∃ V a has since, Sto w4 (wD.setRow w4.heap.size Va) w4.heap.size V a has since ∧ Gt.Inv p a has since now2 ∧ ∀ k, 0 ≤ since k) := Lib.hid ⟨_, _, _, _, HD2.out.1.put HD2.out.2.2, HV.out.1, HV.out.2⟩
                go_wp2_with (first | ((with_reducible show wpList _ _ _ ((⟨some 128, Op.load 30 (.tmp 13), _, _, _, _⟩ : Oper) :: _) _ _); refine wpList_load_rowG (by rfl) _ (.tmp 13) rfl gB rfl 30 Va (0, 0) _ HD2.out.2.1 Try.underlying30 rfl (by rw [za]; exact info_acc) ?_) | ((with_reducible show wpList _ _ _ ((⟨_, Op.store 30 (.tmp 7) _, _, _, _, _⟩ : Oper) :: _) _ _); refine wpList_store_row rfl 30 (.tmp 7) (.tmp 128) rfl w4.heap.size Va rfl rfl 30 V HD2.out.1.one (by rw [za]; exact info_acc) (by rw [za]; exact z7) oa ?_) | fail)
                exact ⟨⟨i + 1, now2, by omega, by go_num, rfl, hn2.1, hn2.2, HZ⟩, by simp [intOf] <;> omega⟩
              · have q1 : (h != nd) = true := by simp [zn]
                have q2 : ¬ (now2 - si < gr) := fun hc => HNO.out ⟨zh, zn, hc⟩
                have ew : IntKind.i64.wrap (now2 - si) = now2 - si := by rw [IntKind.wrap_i64]; omega
                clear zn
                refine wpAnyH_take (i := 0) (v := .pointer (some ⟨gk, 1, none⟩)) rfl (by kernel_rfl) (by kernel_rfl) (by kernel_rfl) (fun _ _ _ h => h) (Or.inl ⟨by rfl, (by intro w hSw; (try dsimp only at hSw); go_simp)⟩) (by assumption) ?_
                try simp only [Act.put, List.getElem_toArray, List.getElem_cons_zero, List.getElem_cons_succ, List.setIfInBounds_toArray, List.set_cons_zero, List.set_cons_succ]
                refine wpAnyH_take (i := 1) (v := .int .i64 (s : Int)) rfl (by kernel_rfl) (by kernel_rfl) (by kernel_rfl) (fun _ _ _ h => h) (Or.inl ⟨by rfl, (by intro wq hSw; have hq := hSw.1; clear hSw; go_simp)⟩) (by assumption) ?_
                try simp only [Act.put, List.getElem_toArray, List.getElem_cons_zero, List.getElem_cons_succ, List.setIfInBounds_toArray, List.set_cons_zero, List.set_cons_succ]
                refine wpAnyH_take (i := 2) (v := .bool false) rfl (by kernel_rfl) (by kernel_rfl) (by kernel_rfl) (fun _ _ _ h => h) (Or.inl ⟨by rfl, (by intro w hSw; (try dsimp only at hSw); go_simp)⟩) (by assumption) ?_
                try simp only [Act.put, List.getElem_toArray, List.getElem_cons_zero, List.getElem_cons_succ, List.setIfInBounds_toArray, List.set_cons_zero, List.set_cons_succ]
                refine wpAnyH_take (i := 3) (v := .bool false) rfl (by kernel_rfl) (by kernel_rfl) (by kernel_rfl) (fun _ _ _ h => h) (Or.inl ⟨by rfl, (by intro w hSw; (try dsimp only at hSw); go_simp)⟩) (by assumption) ?_
                try simp only [Act.put, List.getElem_toArray, List.getElem_cons_zero, List.getElem_cons_succ, List.setIfInBounds_toArray, List.set_cons_zero, List.set_cons_succ]
                refine wpAnyH_take (i := 4) (v := .pointer (some ⟨gk, 1, none⟩)) rfl (by kernel_rfl) (by kernel_rfl) (by kernel_rfl) (fun _ _ _ h => h) (Or.inl ⟨by rfl, (by intro w hSw; (try dsimp only at hSw); go_simp)⟩) (by assumption) ?_
                try simp only [Act.put, List.getElem_toArray, List.getElem_cons_zero, List.getElem_cons_succ, List.setIfInBounds_toArray, List.set_cons_zero, List.set_cons_succ]
                refine wpAnyH_take (i := 5) (v := .int .i64 (s : Int)) rfl (by kernel_rfl) (by kernel_rfl) (by kernel_rfl) (fun _ _ _ h => h) (Or.inl ⟨by rfl, (by intro wq hSw; have hq := hSw.1; clear hSw; go_simp)⟩) (by assumption) ?_
                try simp only [Act.put, List.getElem_toArray, List.getElem_cons_zero, List.getElem_cons_succ, List.setIfInBounds_toArray, List.set_cons_zero, List.set_cons_succ]
                refine wpAnyH_take (i := 6) (v := .pointer (some ⟨w.heap.size, 1, none⟩)) rfl (by kernel_rfl) (by kernel_rfl) (by kernel_rfl) (fun _ _ _ h => h) (Or.inl ⟨by rfl, (by intro w hSw; (try dsimp only at hSw); go_simp)⟩) (by assumption) ?_
                try simp only [Act.put, List.getElem_toArray, List.getElem_cons_zero, List.getElem_cons_succ, List.setIfInBounds_toArray, List.set_cons_zero, List.set_cons_succ]
                refine wpAnyH_take (i := 7) (v := .int .i64 (K : Int)) rfl (by kernel_rfl) (by kernel_rfl) (by kernel_rfl) (fun _ _ _ h => h) (Or.inl ⟨by rfl, (by intro wq hSw; have hq := hSw.2.2.1; clear hSw; go_simp)⟩) (by assumption) ?_
                try simp only [Act.put, List.getElem_toArray, List.getElem_cons_zero, List.getElem_cons_succ, List.setIfInBounds_toArray, List.set_cons_zero, List.set_cons_succ]
                refine wpAnyH_take (i := 8) (v := .bool false) rfl (by kernel_rfl) (by kernel_rfl) (by kernel_rfl) (fun _ _ _ h => h) (Or.inl ⟨by rfl, (by intro w hSw; (try dsimp only at hSw); go_simp)⟩) (by assumption) ?_
                try simp only [Act.put, List.getElem_toArray, List.getElem_cons_zero, List.getElem_cons_succ, List.setIfInBounds_toArray, List.set_cons_zero, List.set_cons_succ]
                refine wpAnyH_take (i := 9) (v := .bool false) rfl (by kernel_rfl) (by kernel_rfl) (by kernel_rfl) (fun _ _ _ h => h) (Or.inl ⟨by rfl, (by intro w hSw; (try dsimp only at hSw); go_simp)⟩) (by assumption) ?_
                try simp only [Act.put, List.getElem_toArray, List.getElem_cons_zero, List.getElem_cons_succ, List.setIfInBounds_toArray, List.set_cons_zero, List.set_cons_succ]
                refine wpAnyH_take (i := 10) (v := .bool false) rfl (by kernel_rfl) (by kernel_rfl) (by kernel_rfl) (fun _ _ _ h => h) (Or.inl ⟨by rfl, (by intro w hSw; (try dsimp only at hSw); go_simp)⟩) (by assumption) ?_
                try simp only [Act.put, List.getElem_toArray, List.getElem_cons_zero, List.getElem_cons_succ, List.setIfInBounds_toArray, List.set_cons_zero, List.set_cons_succ]
                refine wpAnyH_take (i := 11) (v := .pointer (some ⟨gk, 1, none⟩)) rfl (by kernel_rfl) (by kernel_rfl) (by kernel_rfl) (fun _ _ _ h => h) (Or.inl ⟨by rfl, (by intro w hSw; (try dsimp only at hSw); go_simp)⟩) (by assumption) ?_
                try simp only [Act.put, List.getElem_toArray, List.getElem_cons_zero, List.getElem_cons_succ, List.setIfInBounds_toArray, List.set_cons_zero, List.set_cons_succ]
                refine wpAnyH_take (i := 12) (v := .int .i64 (s : Int)) rfl (by kernel_rfl) (by kernel_rfl) (by kernel_rfl) (fun _ _ _ h => h) (Or.inl ⟨by rfl, (by intro wq hSw; have hq := hSw.1; clear hSw; go_simp)⟩) (by assumption) ?_
                try simp only [Act.put, List.getElem_toArray, List.getElem_cons_zero, List.getElem_cons_succ, List.setIfInBounds_toArray, List.set_cons_zero, List.set_cons_succ]
                refine wpAnyH_take (i := 13) (v := .pointer (some ⟨w4.heap.size + 1, s, none⟩)) rfl (by kernel_rfl) (by kernel_rfl) (by kernel_rfl) (fun _ _ _ h => h) (Or.inl ⟨by rfl, (by intro w hSw; (try dsimp only at hSw); go_simp)⟩) (by assumption) ?_
                try simp only [Act.put, List.getElem_toArray, List.getElem_cons_zero, List.getElem_cons_succ, List.setIfInBounds_toArray, List.set_cons_zero, List.set_cons_succ]
                refine wpAnyH_take (i := 14) (v := .int .i64 h) rfl (by kernel_rfl) (by kernel_rfl) (by kernel_rfl) (fun _ _ _ h => h) (Or.inl ⟨by rfl, (by intro wq hSw; have hq := hSw.2.2.2.2.1; clear hSw; go_simp)⟩) (by assumption) ?_
                try simp only [Act.put, List.getElem_toArray, List.getElem_cons_zero, List.getElem_cons_succ, List.setIfInBounds_toArray, List.set_cons_zero, List.set_cons_succ]
                refine wpAnyH_take (i := 15) (v := .bool true) rfl (by kernel_rfl) (by kernel_rfl) (by kernel_rfl) (fun _ _ _ h => h) (Or.inl ⟨by rfl, (by intro w hSw; (try dsimp only at hSw); go_simp)⟩) (by assumption) ?_
                try simp only [Act.put, List.getElem_toArray, List.getElem_cons_zero, List.getElem_cons_succ, List.setIfInBounds_toArray, List.set_cons_zero, List.set_cons_succ]
                refine wpAnyH_take (i := 16) (v := .bool true) rfl (by kernel_rfl) (by kernel_rfl) (by kernel_rfl) (fun _ _ _ h => h) (Or.inl ⟨by rfl, (by intro w hSw; (try dsimp only at hSw); go_simp)⟩) (by assumption) ?_
                try simp only [Act.put, List.getElem_toArray, List.getElem_cons_zero, List.getElem_cons_succ, List.setIfInBounds_toArray, List.set_cons_zero, List.set_cons_succ]
                refine wpAnyH_take (i := 17) (v := .pointer (some ⟨gk, 1, none⟩)) rfl (by kernel_rfl) (by kernel_rfl) (by kernel_rfl) (fun _ _ _ h => h) (Or.inl ⟨by rfl, (by intro w hSw; (try dsimp only at hSw); go_simp)⟩) (by assumption) ?_
                try simp only [Act.put, List.getElem_toArray, List.getElem_cons_zero, List.getElem_cons_succ, List.setIfInBounds_toArray, List.set_cons_zero, List.set_cons_succ]
                refine wpAnyH_take (i := 18) (v := .int .i64 (s : Int)) rfl (by kernel_rfl) (by kernel_rfl) (by kernel_rfl) (fun _ _ _ h => h) (Or.inl ⟨by rfl, (by intro wq hSw; have hq := hSw.1; clear hSw; go_simp)⟩) (by assumption) ?_
                try simp only [Act.put, List.getElem_toArray, List.getElem_cons_zero, List.getElem_cons_succ, List.setIfInBounds_toArray, List.set_cons_zero, List.set_cons_succ]
                refine wpAnyH_take (i := 19) (v := .pointer (some ⟨w4.heap.size + 1, s, none⟩)) rfl (by kernel_rfl) (by kernel_rfl) (by kernel_rfl) (fun _ _ _ h => h) (Or.inl ⟨by rfl, (by intro w hSw; (try dsimp only at hSw); go_simp)⟩) (by assumption) ?_
                try simp only [Act.put, List.getElem_toArray, List.getElem_cons_zero, List.getElem_cons_succ, List.setIfInBounds_toArray, List.set_cons_zero, List.set_cons_succ]
                refine wpAnyH_take (i := 20) (v := .int .i64 h) rfl (by kernel_rfl) (by kernel_rfl) (by kernel_rfl) (fun _ _ _ h => h) (Or.inl ⟨by rfl, (by intro wq hSw; have hq := hSw.2.2.2.2.1; clear hSw; go_simp)⟩) (by assumption) ?_
                try simp only [Act.put, List.getElem_toArray, List.getElem_cons_zero, List.getElem_cons_succ, List.setIfInBounds_toArray, List.set_cons_zero, List.set_cons_succ]
                refine wpAnyH_take (i := 21) (v := .pointer (some ⟨gk, 2, none⟩)) rfl (by kernel_rfl) (by kernel_rfl) (by kernel_rfl) (fun _ _ _ h => h) (Or.inl ⟨by rfl, (by intro w hSw; (try dsimp only at hSw); go_simp)⟩) (by assumption) ?_
                try simp only [Act.put, List.getElem_toArray, List.getElem_cons_zero, List.getElem_cons_succ, List.setIfInBounds_toArray, List.set_cons_zero, List.set_cons_succ]
                refine wpAnyH_take (i := 22) (v := .int .i64 nd) rfl (by kernel_rfl) (by kernel_rfl) (by kernel_rfl) (fun _ _ _ h => h) (Or.inl ⟨by rfl, (by intro wq hSw; have hq := hSw.2.1; clear hSw; go_simp)⟩) (by assumption) ?_
                try simp only [Act.put, List.getElem_toArray, List.getElem_cons_zero, List.getElem_cons_succ, List.setIfInBounds_toArray, List.set_cons_zero, List.set_cons_succ]
                refine wpAnyH_take (i := 23) (v := .bool true) rfl (by kernel_rfl) (by kernel_rfl) (by kernel_rfl) (fun _ _ _ h => h) (Or.inl ⟨by rfl, (by intro w hSw; (try dsimp only at hSw); go_simp)⟩) (by assumption) ?_
                try simp only [Act.put, List.getElem_toArray, List.getElem_cons_zero, List.getElem_cons_succ, List.setIfInBounds_toArray, List.set_cons_zero, List.set_cons_succ]
                refine wpAnyH_take (i := 24) (v := .bool true) rfl (by kernel_rfl) (by kernel_rfl) (by kernel_rfl) (fun _ _ _ h => h) (Or.inl ⟨by rfl, (by intro w hSw; (try dsimp only at hSw); go_simp)⟩) (by assumption) ?_
                try simp only [Act.put, List.getElem_toArray, List.getElem_cons_zero, List.getElem_cons_succ, List.setIfInBounds_toArray, List.set_cons_zero, List.set_cons_succ]
                refine wpAnyH_take (i := 25) (v := .bool true) rfl (by kernel_rfl) (by kernel_rfl) (by kernel_rfl) (fun _ _ _ h => h) (Or.inl ⟨by rfl, (by intro w hSw; (try dsimp only at hSw); go_simp)⟩) (by assumption) ?_
                try simp only [Act.put, List.getElem_toArray, List.getElem_cons_zero, List.getElem_cons_succ, List.setIfInBounds_toArray, List.set_cons_zero, List.set_cons_succ]
                refine wpAnyH_take (i := 26) (v := .int .i64 now2) rfl (by kernel_rfl) (by kernel_rfl) (by kernel_rfl) (fun _ _ _ h => h) (Or.inl ⟨by rfl, (by intro w hSw; (try dsimp only at hSw); go_simp)⟩) (by assumption) ?_
                try simp only [Act.put, List.getElem_toArray, List.getElem_cons_zero, List.getElem_cons_succ, List.setIfInBounds_toArray, List.set_cons_zero, List.set_cons_succ]
                refine wpAnyH_take (i := 27) (v := .pointer (some ⟨gk, 1, none⟩)) rfl (by kernel_rfl) (by kernel_rfl) (by kernel_rfl) (fun _ _ _ h => h) (Or.inl ⟨by rfl, (by intro w hSw; (try dsimp only at hSw); go_simp)⟩) (by assumption) ?_
                try simp only [Act.put, List.getElem_toArray, List.getElem_cons_zero, List.getElem_cons_succ, List.setIfInBounds_toArray, List.set_cons_zero, List.set_cons_succ]
                refine wpAnyH_take (i := 28) (v := .int .i64 (s : Int)) rfl (by kernel_rfl) (by kernel_rfl) (by kernel_rfl) (fun _ _ _ h => h) (Or.inl ⟨by rfl, (by intro wq hSw; have hq := hSw.1; clear hSw; go_simp)⟩) (by assumption) ?_
                try simp only [Act.put, List.getElem_toArray, List.getElem_cons_zero, List.getElem_cons_succ, List.setIfInBounds_toArray, List.set_cons_zero, List.set_cons_succ]
                refine wpAnyH_take (i := 29) (v := .pointer (some ⟨w4.heap.size + 1 + 1, s, none⟩)) rfl (by kernel_rfl) (by kernel_rfl) (by kernel_rfl) (fun _ _ _ h => h) (Or.inl ⟨by rfl, (by intro w hSw; (try dsimp only at hSw); go_simp)⟩) (by assumption) ?_
                try simp only [Act.put, List.getElem_toArray, List.getElem_cons_zero, List.getElem_cons_succ, List.setIfInBounds_toArray, List.set_cons_zero, List.set_cons_succ]
                refine wpAnyH_take (i := 30) (v := .int .i64 si) rfl (by kernel_rfl) (by kernel_rfl) (by kernel_rfl) (fun _ _ _ h => h) (Or.inl ⟨by rfl, (by intro wq hSw; have hq := hSw.2.2.2.2.2; clear hSw; go_simp)⟩) (by assumption) ?_
                try simp only [Act.put, List.getElem_toArray, List.getElem_cons_zero, List.getElem_cons_succ, List.setIfInBounds_toArray, List.set_cons_zero, List.set_cons_succ]
                refine wpAnyH_take (i := 31) (v := .int .i64 (now2 - si)) rfl (by kernel_rfl) (by kernel_rfl) (by kernel_rfl) (fun _ _ _ h => h) (Or.inl ⟨by rfl, (by intro w hSw; (try dsimp only at hSw); go_simp)⟩) (by assumption) ?_
                try simp only [Act.put, List.getElem_toArray, List.getElem_cons_zero, List.getElem_cons_succ, List.setIfInBounds_toArray, List.set_cons_zero, List.set_cons_succ]
                refine wpAnyH_take (i := 32) (v := .pointer (some ⟨w.heap.size, 4, none⟩)) rfl (by kernel_rfl) (by kernel_rfl) (by kernel_rfl) (fun _ _ _ h => h) (Or.inl ⟨by rfl, (by intro w hSw; (try dsimp only at hSw); go_simp)⟩) (by assumption) ?_
                try simp only [Act.put, List.getElem_toArray, List.getElem_cons_zero, List.getElem_cons_succ, List.setIfInBounds_toArray, List.set_cons_zero, List.set_cons_succ]
                refine wpAnyH_take (i := 33) (v := .int .i64 gr) rfl (by kernel_rfl) (by kernel_rfl) (by kernel_rfl) (fun _ _ _ h => h) (Or.inl ⟨by rfl, (by intro wq hSw; have hq := hSw.2.2.2.1; clear hSw; go_simp)⟩) (by assumption) ?_
                try simp only [Act.put, List.getElem_toArray, List.getElem_cons_zero, List.getElem_cons_succ, List.setIfInBounds_toArray, List.set_cons_zero, List.set_cons_succ]
                refine wpAnyH_take (i := 34) (v := .bool false) rfl (by kernel_rfl) (by kernel_rfl) (by kernel_rfl) (fun _ _ _ h => h) (Or.inl ⟨by rfl, (by intro w hSw; (try dsimp only at hSw); go_simp)⟩) (by assumption) ?_
                try simp only [Act.put, List.getElem_toArray, List.getElem_cons_zero, List.getElem_cons_succ, List.setIfInBounds_toArray, List.set_cons_zero, List.set_cons_succ]
                refine wpAnyH_take (i := 35) (v := .bool false) rfl (by kernel_rfl) (by kernel_rfl) (by kernel_rfl) (fun _ _ _ h => h) (Or.inl ⟨by rfl, (by intro w hSw; (try dsimp only at hSw); go_simp)⟩) (by assumption) ?_
                try simp only [Act.put, List.getElem_toArray, List.getElem_cons_zero, List.getElem_cons_succ, List.setIfInBounds_toArray, List.set_cons_zero, List.set_cons_succ]
                refine wpAnyH_take (i := 36) (v := .bool false) rfl (by kernel_rfl) (by kernel_rfl) (by kernel_rfl) (fun _ _ _ h => h) (Or.inl ⟨by rfl, (by intro w hSw; (try dsimp only at hSw); go_simp)⟩) (by assumption) ?_
                try simp only [Act.put, List.getElem_toArray, List.getElem_cons_zero, List.getElem_cons_succ, List.setIfInBounds_toArray, List.set_cons_zero, List.set_cons_succ]
                refine wpAnyH_done (by kernel_rfl) ?_ _
                clear hHeld j1
                have hdr : Below wB.heap.size wB wB.drew := (Below.refl _ _).drew
                have HB : Hid (Sto w4 wB.drew w4.heap.size V a has since ∧ Whole wB.drew gB 30 Va ∧ AccS wB.drew (Sx w4.heap.size) Va (Gt.put a (s : Int) ⟨nd, nc, now2⟩) ∧ Whole wB.drew gk 33 (ccs ⟨1, (s : Int), nd, nc, ah⟩).toArray) := Lib.hid ⟨HB.out.1.on hdr, HB.out.2.1, HB.out.2.2.1.on hdr, HB.out.2.2.2⟩
                clear hdr
                generalize wB.drew = wX at *
                go_upto_region 26 with fail
                have m1 : wX.cell? ⟨gk, 1, none⟩ = some (.int .i64 (s : Int)) := HB.out.2.2.2.cell 1
                have m2 : wX.cell? ⟨gk, 2, none⟩ = some (.int .i64 nd) := HB.out.2.2.2.cell 2
                have hS := HB.out.1
                have c8 := hS.h hs9
                have f8 : wX.frozen? ⟨w4.heap.size + 1, s, none⟩ = false := hS.has.frozen s
                have HC : Hid (Sto w4 (wX.setCell ⟨w4.heap.size + 1, s, none⟩ (.int .i64 nd)) w4.heap.size V a (Gt.upd has s nd) since ∧ Whole (wX.setCell ⟨w4.heap.size + 1, s, none⟩ (.int .i64 nd)) gB 30 Va ∧ AccS (wX.setCell ⟨w4.heap.size + 1, s, none⟩ (.int .i64 nd)) (Sx w4.heap.size) Va (Gt.put a (s : Int) ⟨nd, nc, now2⟩) ∧ Whole (wX.setCell ⟨w4.heap.size + 1, s, none⟩ (.int .i64 nd)) gk 33 (ccs ⟨1, (s : Int), nd, nc, ah⟩).toArray) := Lib.hid ⟨hS.set8, HB.out.2.1.far (p := ⟨w4.heap.size + 1, s, none⟩) (by show gB ≠ w4.heap.size + 1; have := HGB.out; omega) _, HB.out.2.2.1.keep (by simp [World.setCell]) (fun b _ hs => heap_setCell_other _ _ _ _ hs.2.1), HB.out.2.2.2.far (p := ⟨w4.heap.size + 1, s, none⟩) (by show gk ≠ w4.heap.size + 1; have := HGL.out; omega) _⟩
                clear hS
                go_upto_region 27 with fail
                generalize wX.setCell ⟨w4.heap.size + 1, s, none⟩ (.int .i64 nd) = wC at *
                clear m1 m2 c8 f8
                have m1 : wC.cell? ⟨gk, 1, none⟩ = some (.int .i64 (s : Int)) := HC.out.2.2.2.cell 1
                have c9 := HC.out.1.i hs9
                have f9 : wC.frozen? ⟨w4.heap.size + 1 + 1, s, none⟩ = false := HC.out.1.since.frozen s
                have HD2 : Hid (Sto w4 (wC.setCell ⟨w4.heap.size + 1 + 1, s, none⟩ (.int .i64 now2)) w4.heap.size V a (Gt.upd has s nd) (Gt.upd since s now2) ∧ Whole (wC.setCell ⟨w4.heap.size + 1 + 1, s, none⟩ (.int .i64 now2)) gB 30 Va ∧ AccS (wC.setCell ⟨w4.heap.size + 1 + 1, s, none⟩ (.int .i64 now2)) (Sx w4.heap.size) Va (Gt.put a (s : Int) ⟨nd, nc, now2⟩)) := Lib.hid ⟨HC.out.1.set9, HC.out.2.1.far (p := ⟨w4.heap.size + 1 + 1, s, none⟩) (by show gB ≠ w4.heap.size + 1 + 1; have := HGB.out; omega) _, HC.out.2.2.1.keep (by simp [World.setCell]) (fun b _ hs => heap_setCell_other _ _ _ _ hs.2.2)⟩
                go_upto_region 28 with fail
                generalize wC.setCell ⟨w4.heap.size + 1 + 1, s, none⟩ (.int .i64 now2) = wD at *
                clear m1 c9 f9 HC
                have za := HD2.out.2.2.acc.size
                have oa := HD2.out.2.2.acc.one
                have z7 := HD2.out.1.acc.acc.size
                have HZ : Hid (∃ V a has since, Sto w4 (wD.setRow w4.heap.size Va) w4.heap.size V a has since ∧ Gt.Inv p a has since now2 ∧ ∀ k, 0 ≤ since k) := Lib.hid ⟨_, _, _, _, HD2.out.1.put HD2.out.2.2, HV.out.1, HV.out.2⟩
                go_wp2_with (first | ((with_reducible show wpList _ _ _ ((⟨some 128, Op.load 30 (.tmp 13), _, _, _, _⟩ : Oper) :: _) _ _); refine wpList_load_rowG (by rfl) _ (.tmp 13) rfl gB rfl 30 Va (0, 0) _ HD2.out.2.1 Try.underlying30 rfl (by rw [za]; exact info_acc) ?_) | ((with_reducible show wpList _ _ _ ((⟨_, Op.store 30 (.tmp 7) _, _, _, _, _⟩ : Oper) :: _) _ _); refine wpList_store_row rfl 30 (.tmp 7) (.tmp 128) rfl w4.heap.size Va rfl rfl 30 V HD2.out.1.one (by rw [za]; exact info_acc) (by rw [za]; exact z7) oa ?_) | fail)
                exact ⟨⟨i + 1, now2, by omega, by go_num, rfl, hn2.1, hn2.2, HZ⟩, by simp [intOf] <;> omega⟩
            · skip
              refine wpAnyH_take (i := 0) (v := .pointer (some ⟨gk, 1, none⟩)) rfl (by kernel_rfl) (by kernel_rfl) (by kernel_rfl) (fun _ _ _ h => h) (Or.inl ⟨by rfl, (by intro w hSw; (try dsimp only at hSw); go_simp)⟩) (by assumption) ?_
              try simp only [Act.put, List.getElem_toArray, List.getElem_cons_zero, List.getElem_cons_succ, List.setIfInBounds_toArray, List.set_cons_zero, List.set_cons_succ]
              refine wpAnyH_take (i := 1) (v := .int .i64 (s : Int)) rfl (by kernel_rfl) (by kernel_rfl) (by kernel_rfl) (fun _ _ _ h => h) (Or.inl ⟨by rfl, (by intro wq hSw; have hq := hSw.1; clear hSw; go_simp)⟩) (by assumption) ?_
              try simp only [Act.put, List.getElem_toArray, List.getElem_cons_zero, List.getElem_cons_succ, List.setIfInBounds_toArray, List.set_cons_zero, List.set_cons_succ]
              refine wpAnyH_take (i := 2) (v := .bool false) rfl (by kernel_rfl) (by kernel_rfl) (by kernel_rfl) (fun _ _ _ h => h) (Or.inl ⟨by rfl, (by intro w hSw; (try dsimp only at hSw); go_simp)⟩) (by assumption) ?_
              try simp only [Act.put, List.getElem_toArray, List.getElem_cons_zero, List.getElem_cons_succ, List.setIfInBounds_toArray, List.set_cons_zero, List.set_cons_succ]
              refine wpAnyH_take (i := 3) (v := .bool false) rfl (by kernel_rfl) (by kernel_rfl) (by kernel_rfl) (fun _ _ _ h => h) (Or.inl ⟨by rfl, (by intro w hSw; (try dsimp only at hSw); go_simp)⟩) (by assumption) ?_
              try simp only [Act.put, List.getElem_toArray, List.getElem_cons_zero, List.getElem_cons_succ, List.setIfInBounds_toArray, List.set_cons_zero, List.set_cons_succ]
              refine wpAnyH_take (i := 4) (v := .pointer (some ⟨gk, 1, none⟩)) rfl (by kernel_rfl) (by kernel_rfl) (by kernel_rfl) (fun _ _ _ h => h) (Or.inl ⟨by rfl, (by intro w hSw; (try dsimp only at hSw); go_simp)⟩) (by assumption) ?_
              try simp only [Act.put, List.getElem_toArray, List.getElem_cons_zero, List.getElem_cons_succ, List.setIfInBounds_toArray, List.set_cons_zero, List.set_cons_succ]
              refine wpAnyH_take (i := 5) (v := .int .i64 (s : Int)) rfl (by kernel_rfl) (by kernel_rfl) (by kernel_rfl) (fun _ _ _ h => h) (Or.inl ⟨by rfl, (by intro wq hSw; have hq := hSw.1; clear hSw; go_simp)⟩) (by assumption) ?_
              try simp only [Act.put, List.getElem_toArray, List.getElem_cons_zero, List.getElem_cons_succ, List.setIfInBounds_toArray, List.set_cons_zero, List.set_cons_succ]
              refine wpAnyH_take (i := 6) (v := .pointer (some ⟨w.heap.size, 1, none⟩)) rfl (by kernel_rfl) (by kernel_rfl) (by kernel_rfl) (fun _ _ _ h => h) (Or.inl ⟨by rfl, (by intro w hSw; (try dsimp only at hSw); go_simp)⟩) (by assumption) ?_
              try simp only [Act.put, List.getElem_toArray, List.getElem_cons_zero, List.getElem_cons_succ, List.setIfInBounds_toArray, List.set_cons_zero, List.set_cons_succ]
              refine wpAnyH_take (i := 7) (v := .int .i64 (K : Int)) rfl (by kernel_rfl) (by kernel_rfl) (by kernel_rfl) (fun _ _ _ h => h) (Or.inl ⟨by rfl, (by intro wq hSw; have hq := hSw.2.2.1; clear hSw; go_simp)⟩) (by assumption) ?_
              try simp only [Act.put, List.getElem_toArray, List.getElem_cons_zero, List.getElem_cons_succ, List.setIfInBounds_toArray, List.set_cons_zero, List.set_cons_succ]
              refine wpAnyH_take (i := 8) (v := .bool false) rfl (by kernel_rfl) (by kernel_rfl) (by kernel_rfl) (fun _ _ _ h => h) (Or.inl ⟨by rfl, (by intro w hSw; (try dsimp only at hSw); go_simp)⟩) (by assumption) ?_
              try simp only [Act.put, List.getElem_toArray, List.getElem_cons_zero, List.getElem_cons_succ, List.setIfInBounds_toArray, List.set_cons_zero, List.set_cons_succ]
              refine wpAnyH_take (i := 9) (v := .bool false) rfl (by kernel_rfl) (by kernel_rfl) (by kernel_rfl) (fun _ _ _ h => h) (Or.inl ⟨by rfl, (by intro w hSw; (try dsimp only at hSw); go_simp)⟩) (by assumption) ?_
              try simp only [Act.put, List.getElem_toArray, List.getElem_cons_zero, List.getElem_cons_succ, List.setIfInBounds_toArray, List.set_cons_zero, List.set_cons_succ]
              refine wpAnyH_take (i := 10) (v := .bool false) rfl (by kernel_rfl) (by kernel_rfl) (by kernel_rfl) (fun _ _ _ h => h) (Or.inl ⟨by rfl, (by intro w hSw; (try dsimp only at hSw); go_simp)⟩) (by assumption) ?_
              try simp only [Act.put, List.getElem_toArray, List.getElem_cons_zero, List.getElem_cons_succ, List.setIfInBounds_toArray, List.set_cons_zero, List.set_cons_succ]
              refine wpAnyH_take (i := 11) (v := .pointer (some ⟨gk, 1, none⟩)) rfl (by kernel_rfl) (by kernel_rfl) (by kernel_rfl) (fun _ _ _ h => h) (Or.inl ⟨by rfl, (by intro w hSw; (try dsimp only at hSw); go_simp)⟩) (by assumption) ?_
              try simp only [Act.put, List.getElem_toArray, List.getElem_cons_zero, List.getElem_cons_succ, List.setIfInBounds_toArray, List.set_cons_zero, List.set_cons_succ]
              refine wpAnyH_take (i := 12) (v := .int .i64 (s : Int)) rfl (by kernel_rfl) (by kernel_rfl) (by kernel_rfl) (fun _ _ _ h => h) (Or.inl ⟨by rfl, (by intro wq hSw; have hq := hSw.1; clear hSw; go_simp)⟩) (by assumption) ?_
              try simp only [Act.put, List.getElem_toArray, List.getElem_cons_zero, List.getElem_cons_succ, List.setIfInBounds_toArray, List.set_cons_zero, List.set_cons_succ]
              refine wpAnyH_take (i := 13) (v := .pointer (some ⟨w4.heap.size + 1, s, none⟩)) rfl (by kernel_rfl) (by kernel_rfl) (by kernel_rfl) (fun _ _ _ h => h) (Or.inl ⟨by rfl, (by intro w hSw; (try dsimp only at hSw); go_simp)⟩) (by assumption) ?_
              try simp only [Act.put, List.getElem_toArray, List.getElem_cons_zero, List.getElem_cons_succ, List.setIfInBounds_toArray, List.set_cons_zero, List.set_cons_succ]
              refine wpAnyH_take (i := 14) (v := .int .i64 h) rfl (by kernel_rfl) (by kernel_rfl) (by kernel_rfl) (fun _ _ _ h => h) (Or.inl ⟨by rfl, (by intro wq hSw; have hq := hSw.2.2.2.2.1; clear hSw; go_simp)⟩) (by assumption) ?_
              try simp only [Act.put, List.getElem_toArray, List.getElem_cons_zero, List.getElem_cons_succ, List.setIfInBounds_toArray, List.set_cons_zero, List.set_cons_succ]
              refine wpAnyH_take (i := 15) (v := .bool false) rfl (by kernel_rfl) (by kernel_rfl) (by kernel_rfl) (fun _ _ _ h => h) (Or.inl ⟨by rfl, (by intro w hSw; (try dsimp only at hSw); go_simp)⟩) (by assumption) ?_
              try simp only [Act.put, List.getElem_toArray, List.getElem_cons_zero, List.getElem_cons_succ, List.setIfInBounds_toArray, List.set_cons_zero, List.set_cons_succ]
              refine wpAnyH_take (i := 16) (v := .bool false) rfl (by kernel_rfl) (by kernel_rfl) (by kernel_rfl) (fun _ _ _ h => h) (Or.inl ⟨by rfl, (by intro w hSw; (try dsimp only at hSw); go_simp)⟩) (by assumption) ?_
              try simp only [Act.put, List.getElem_toArray, List.getElem_cons_zero, List.getElem_cons_succ, List.setIfInBounds_toArray, List.set_cons_zero, List.set_cons_succ]
              refine wpAnyH_take (i := 17) (v := undef) rfl (by kernel_rfl) (by kernel_rfl) (by kernel_rfl) (fun _ _ _ h => h) (Or.inr ⟨by rfl, rfl⟩) (by assumption) ?_
              try simp only [Act.put, List.getElem_toArray, List.getElem_cons_zero, List.getElem_cons_succ, List.setIfInBounds_toArray, List.set_cons_zero, List.set_cons_succ]
              refine wpAnyH_take (i := 18) (v := undef) rfl (by kernel_rfl) (by kernel_rfl) (by kernel_rfl) (fun _ _ _ h => h) (Or.inr ⟨by rfl, rfl⟩) (by assumption) ?_
              try simp only [Act.put, List.getElem_toArray, List.getElem_cons_zero, List.getElem_cons_succ, List.setIfInBounds_toArray, List.set_cons_zero, List.set_cons_succ]
              refine wpAnyH_take (i := 19) (v := undef) rfl (by kernel_rfl) (by kernel_rfl) (by kernel_rfl) (fun _ _ _ h => h) (Or.inr ⟨by rfl, rfl⟩) (by assumption) ?_
              try simp only [Act.put, List.getElem_toArray, List.getElem_cons_zero, List.getElem_cons_succ, List.setIfInBounds_toArray, List.set_cons_zero, List.set_cons_succ]
              refine wpAnyH_take (i := 20) (v := undef) rfl (by kernel_rfl) (by kernel_rfl) (by kernel_rfl) (fun _ _ _ h => h) (Or.inr ⟨by rfl, rfl⟩) (by assumption) ?_
              try simp only [Act.put, List.getElem_toArray, List.getElem_cons_zero, List.getElem_cons_succ, List.setIfInBounds_toArray, List.set_cons_zero, List.set_cons_succ]
              refine wpAnyH_take (i := 21) (v := undef) rfl (by kernel_rfl) (by kernel_rfl) (by kernel_rfl) (fun _ _ _ h => h) (Or.inr ⟨by rfl, rfl⟩) (by assumption) ?_
              try simp only [Act.put, List.getElem_toArray, List.getElem_cons_zero, List.getElem_cons_succ, List.setIfInBounds_toArray, List.set_cons_zero, List.set_cons_succ]
              refine wpAnyH_take (i := 22) (v := undef) rfl (by kernel_rfl) (by kernel_rfl) (by kernel_rfl) (fun _ _ _ h => h) (Or.inr ⟨by rfl, rfl⟩) (by assumption) ?_
              try simp only [Act.put, List.getElem_toArray, List.getElem_cons_zero, List.getElem_cons_succ, List.setIfInBounds_toArray, List.set_cons_zero, List.set_cons_succ]
              refine wpAnyH_take (i := 23) (v := undef) rfl (by kernel_rfl) (by kernel_rfl) (by kernel_rfl) (fun _ _ _ h => h) (Or.inr ⟨by rfl, rfl⟩) (by assumption) ?_
              try simp only [Act.put, List.getElem_toArray, List.getElem_cons_zero, List.getElem_cons_succ, List.setIfInBounds_toArray, List.set_cons_zero, List.set_cons_succ]
              refine wpAnyH_take (i := 24) (v := .bool false) rfl (by kernel_rfl) (by kernel_rfl) (by kernel_rfl) (fun _ _ _ h => h) (Or.inl ⟨by rfl, (by intro w hSw; (try dsimp only at hSw); go_simp)⟩) (by assumption) ?_
              try simp only [Act.put, List.getElem_toArray, List.getElem_cons_zero, List.getElem_cons_succ, List.setIfInBounds_toArray, List.set_cons_zero, List.set_cons_succ]
              refine wpAnyH_take (i := 25) (v := .bool false) rfl (by kernel_rfl) (by kernel_rfl) (by kernel_rfl) (fun _ _ _ h => h) (Or.inl ⟨by rfl, (by intro w hSw; (try dsimp only at hSw); go_simp)⟩) (by assumption) ?_
              try simp only [Act.put, List.getElem_toArray, List.getElem_cons_zero, List.getElem_cons_succ, List.setIfInBounds_toArray, List.set_cons_zero, List.set_cons_succ]
              refine wpAnyH_take (i := 26) (v := undef) rfl (by kernel_rfl) (by kernel_rfl) (by kernel_rfl) (fun _ _ _ h => h) (Or.inr ⟨by rfl, rfl⟩) (by assumption) ?_
              try simp only [Act.put, List.getElem_toArray, List.getElem_cons_zero, List.getElem_cons_succ, List.setIfInBounds_toArray, List.set_cons_zero, List.set_cons_succ]
              refine wpAnyH_take (i := 27) (v := undef) rfl (by kernel_rfl) (by kernel_rfl) (by kernel_rfl) (fun _ _ _ h => h) (Or.inr ⟨by rfl, rfl⟩) (by assumption) ?_
              try simp only [Act.put, List.getElem_toArray, List.getElem_cons_zero, List.getElem_cons_succ, List.setIfInBounds_toArray, List.set_cons_zero, List.set_cons_succ]
              refine wpAnyH_take (i := 28) (v := undef) rfl (by kernel_rfl) (by kernel_rfl) (by kernel_rfl) (fun _ _ _ h => h) (Or.inr ⟨by rfl, rfl⟩) (by assumption) ?_
              try simp only [Act.put, List.getElem_toArray, List.getElem_cons_zero, List.getElem_cons_succ, List.setIfInBounds_toArray, List.set_cons_zero, List.set_cons_succ]
              refine wpAnyH_take (i := 29) (v := undef) rfl (by kernel_rfl) (by kernel_rfl) (by kernel_rfl) (fun _ _ _ h => h) (Or.inr ⟨by rfl, rfl⟩) (by assumption) ?_
              try simp only [Act.put, List.getElem_toArray, List.getElem_cons_zero, List.getElem_cons_succ, List.setIfInBounds_toArray, List.set_cons_zero, List.set_cons_succ]
              refine wpAnyH_take (i := 30) (v := undef) rfl (by kernel_rfl) (by kernel_rfl) (by kernel_rfl) (fun _ _ _ h => h) (Or.inr ⟨by rfl, rfl⟩) (by assumption) ?_
              try simp only [Act.put, List.getElem_toArray, List.getElem_cons_zero, List.getElem_cons_succ, List.setIfInBounds_toArray, List.set_cons_zero, List.set_cons_succ]
              refine wpAnyH_take (i := 31) (v := undef) rfl (by kernel_rfl) (by kernel_rfl) (by kernel_rfl) (fun _ _ _ h => h) (Or.inr ⟨by rfl, rfl⟩) (by assumption) ?_
              try simp only [Act.put, List.getElem_toArray, List.getElem_cons_zero, List.getElem_cons_succ, List.setIfInBounds_toArray, List.set_cons_zero, List.set_cons_succ]
              refine wpAnyH_take (i := 32) (v := undef) rfl (by kernel_rfl) (by kernel_rfl) (by kernel_rfl) (fun _ _ _ h => h) (Or.inr ⟨by rfl, rfl⟩) (by assumption) ?_
              try simp only [Act.put, List.getElem_toArray, List.getElem_cons_zero, List.getElem_cons_succ, List.setIfInBounds_toArray, List.set_cons_zero, List.set_cons_succ]
              refine wpAnyH_take (i := 33) (v := undef) rfl (by kernel_rfl) (by kernel_rfl) (by kernel_rfl) (fun _ _ _ h => h) (Or.inr ⟨by rfl, rfl⟩) (by assumption) ?_
              try simp only [Act.put, List.getElem_toArray, List.getElem_cons_zero, List.getElem_cons_succ, List.setIfInBounds_toArray, List.set_cons_zero, List.set_cons_succ]
              refine wpAnyH_take (i := 34) (v := undef) rfl (by kernel_rfl) (by kernel_rfl) (by kernel_rfl) (fun _ _ _ h => h) (Or.inr ⟨by rfl, rfl⟩) (by assumption) ?_
              try simp only [Act.put, List.getElem_toArray, List.getElem_cons_zero, List.getElem_cons_succ, List.setIfInBounds_toArray, List.set_cons_zero, List.set_cons_succ]
              refine wpAnyH_take (i := 35) (v := .bool false) rfl (by kernel_rfl) (by kernel_rfl) (by kernel_rfl) (fun _ _ _ h => h) (Or.inl ⟨by rfl, (by intro w hSw; (try dsimp only at hSw); go_simp)⟩) (by assumption) ?_
              try simp only [Act.put, List.getElem_toArray, List.getElem_cons_zero, List.getElem_cons_succ, List.setIfInBounds_toArray, List.set_cons_zero, List.set_cons_succ]
              refine wpAnyH_take (i := 36) (v := .bool false) rfl (by kernel_rfl) (by kernel_rfl) (by kernel_rfl) (fun _ _ _ h => h) (Or.inl ⟨by rfl, (by intro w hSw; (try dsimp only at hSw); go_simp)⟩) (by assumption) ?_
              try simp only [Act.put, List.getElem_toArray, List.getElem_cons_zero, List.getElem_cons_succ, List.setIfInBounds_toArray, List.set_cons_zero, List.set_cons_succ]
              refine wpAnyH_done (by kernel_rfl) ?_ _
              clear hHeld j1
              have hdr : Below wB.heap.size wB wB.drew := (Below.refl _ _).drew
              have HB : Hid (Sto w4 wB.drew w4.heap.size V a has since ∧ Whole wB.drew gB 30 Va ∧ AccS wB.drew (Sx w4.heap.size) Va (Gt.put a (s : Int) ⟨nd, nc, now2⟩) ∧ Whole wB.drew gk 33 (ccs ⟨1, (s : Int), nd, nc, ah⟩).toArray) := Lib.hid ⟨HB.out.1.on hdr, HB.out.2.1, HB.out.2.2.1.on hdr, HB.out.2.2.2⟩
              clear hdr
              generalize wB.drew = wX at *
              go_upto_region 26 with fail
              have m1 : wX.cell? ⟨gk, 1, none⟩ = some (.int .i64 (s : Int)) := HB.out.2.2.2.cell 1
              have m2 : wX.cell? ⟨gk, 2, none⟩ = some (.int .i64 nd) := HB.out.2.2.2.cell 2
              have hS := HB.out.1
              have c8 := hS.h hs9
              have f8 : wX.frozen? ⟨w4.heap.size + 1, s, none⟩ = false := hS.has.frozen s
              have HC : Hid (Sto w4 (wX.setCell ⟨w4.heap.size + 1, s, none⟩ (.int .i64 nd)) w4.heap.size V a (Gt.upd has s nd) since ∧ Whole (wX.setCell ⟨w4.heap.size + 1, s, none⟩ (.int .i64 nd)) gB 30 Va ∧ AccS (wX.setCell ⟨w4.heap.size + 1, s, none⟩ (.int .i64 nd)) (Sx w4.heap.size) Va (Gt.put a (s : Int) ⟨nd, nc, now2⟩) ∧ Whole (wX.setCell ⟨w4.heap.size + 1, s, none⟩ (.int .i64 nd)) gk 33 (ccs ⟨1, (s : Int), nd, nc, ah⟩).toArray) := Lib.hid ⟨hS.set8, HB.out.2.1.far (p := ⟨w4.heap.size + 1, s, none⟩) (by show gB ≠ w4.heap.size + 1; have := HGB.out; omega) _, HB.out.2.2.1.keep (by simp [World.setCell]) (fun b _ hs => heap_setCell_other _ _ _ _ hs.2.1), HB.out.2.2.2.far (p := ⟨w4.heap.size + 1, s, none⟩) (by show gk ≠ w4.heap.size + 1; have := HGL.out; omega) _⟩
              clear hS
              go_upto_region 27 with fail
              generalize wX.setCell ⟨w4.heap.size + 1, s, none⟩ (.int .i64 nd) = wC at *
              clear m1 m2 c8 f8
              have m1 : wC.cell? ⟨gk, 1, none⟩ = some (.int .i64 (s : Int)) := HC.out.2.2.2.cell 1
              have c9 := HC.out.1.i hs9
              have f9 : wC.frozen? ⟨w4.heap.size + 1 + 1, s, none⟩ = false := HC.out.1.since.frozen s
              have HD2 : Hid (Sto w4 (wC.setCell ⟨w4.heap.size + 1 + 1, s, none⟩ (.int .i64 now2)) w4.heap.size V a (Gt.upd has s nd) (Gt.upd since s now2) ∧ Whole (wC.setCell ⟨w4.heap.size + 1 + 1, s, none⟩ (.int .i64 now2)) gB 30 Va ∧ AccS (wC.setCell ⟨w4.heap.size + 1 + 1, s, none⟩ (.int .i64 now2)) (Sx w4.heap.size) Va (Gt.put a (s : Int) ⟨nd, nc, now2⟩)) := Lib.hid ⟨HC.out.1.set9, HC.out.2.1.far (p := ⟨w4.heap.size + 1 + 1, s, none⟩) (by show gB ≠ w4.heap.size + 1 + 1; have := HGB.out; omega) _, HC.out.2.2.1.keep (by simp [World.setCell]) (fun b _ hs => heap_setCell_other _ _ _ _ hs.2.2)⟩
              go_upto_region 28 with fail
              generalize wC.setCell ⟨w4.heap.size + 1 + 1, s, none⟩ (.int .i64 now2) = wD at *
              clear m1 c9 f9 HC
              have za := HD2.out.2.2.acc.size
              have oa := HD2.out.2.2.acc.one
              have z7 := HD2.out.1.acc.acc.size
              have HZ : Hid (∃ V a has since, Sto w4 (wD.setRow w4.heap.size Va) w4.heap.size V a has since ∧ Gt.Inv p a has since now2 ∧ ∀ k, 0 ≤ since k) := Lib.hid ⟨_, _, _, _, HD2.out.1.put HD2.out.2.2, HV.out.1, HV.out.2⟩
              go_wp2_with (first | ((with_reducible show wpList _ _ _ ((⟨some 128, Op.load 30 (.tmp 13), _, _, _, _⟩ : Oper) :: _) _ _); refine wpList_load_rowG (by rfl) _ (.tmp 13) rfl gB rfl 30 Va (0, 0) _ HD2.out.2.1 Try.underlying30 rfl (by rw [za]; exact info_acc) ?_) | ((with_reducible show wpList _ _ _ ((⟨_, Op.store 30 (.tmp 7) _, _, _, _, _⟩ : Oper) :: _) _ _); refine wpList_store_row rfl 30 (.tmp 7) (.tmp 128) rfl w4.heap.size Va rfl rfl 30 V HD2.out.1.one (by rw [za]; exact info_acc) (by rw [za]; exact z7) oa ?_) | fail)
              exact ⟨⟨i + 1, now2, by omega, by go_num, rfl, hn2.1, hn2.2, HZ⟩, by simp [intOf] <;> omega⟩
        have q1 : (kd == 1) = false := by simp [y1]
        clear y1
        by_cases y2 : kd = 2
        · as_aux_lemma =>
            subst y2
            have k0 : wc.cell? ⟨gk, 0, none⟩ = some (.int .i64 2) := HW.out.cell 0
            have k1 : wc.cell? ⟨gk, 1, none⟩ = some (.int .i64 sl) := HW.out.cell 1
            have k2 : wc.cell? ⟨gk, 2, none⟩ = some (.int .i64 nd) := HW.out.cell 2
            have k3 : wc.cell? ⟨gk, 3, none⟩ = some (.int .i64 nc) := HW.out.cell 3
            have hp := HK.out.1.on HD.out.below
            have z1 := HD.out.acc.acc.size
            have z7 := z1
            go_wp2_with (first | ((with_reducible show wpList _ _ _ ((⟨some 131, Op.load 24 (.tmp 2), _, _, _, _⟩ : Oper) :: _) _ _); refine wpList_load_rowG (by rfl) _ (.tmp 2) rfl w.heap.size rfl 24 C (0, 0) _ hp.1 Try.underlying24 rfl (by rw [h11]; exact info11) ?_) | ((with_reducible show wpList _ _ _ ((⟨some 132, Op.load 30 (.tmp 7), _, _, _, _⟩ : Oper) :: _) _ _); refine wpList_load_rowG (by rfl) _ (.tmp 7) rfl w4.heap.size rfl 30 V (0, 0) _ HD.out.one Try.underlying30 rfl (by rw [z1]; exact info_acc) ?_) | fail)
            refine (HG.out.free hp.2 HD.out.acc sl nd nc HI.out.2.1 HI.out.2.2.1 HI.out.2.2.2.1).mono ?_
            rintro e wA ⟨Va, rfl, ha, hb⟩
            have ha := ha.weak (S' := Sx w4.heap.size) (fun b _ hs => hs.elim id (fun h => by have h1 := HD.out.since.lt; exact ⟨by omega, by omega, by omega⟩))
            have za := ha.acc.size
            have oa := ha.acc.one
            have HA1 := Lib.hid (And.intro ha (And.intro (HD.out.on hb) (HW.out.below hb HW.out.lt)))
            clear ha hb hp z1 k0 k1 k2 k3
            go_upto_region 31 with (first | ((with_reducible show wpList _ _ _ ((⟨_, Op.store 30 (.tmp 7) _, _, _, _, _⟩ : Oper) :: _) _ _); refine wpList_store_row rfl 30 (.tmp 7) (.tmp 139) rfl w4.heap.size Va rfl rfl 30 V HA1.out.2.1.one (by rw [za]; exact info_acc) (by rw [za]; exact z7) oa ?_) | fail)
            have hgk : gk ≠ w4.heap.size := by have := HGL.out; omega
            have HB : Hid (Sto w4 (wA.setRow w4.heap.size Va) w4.heap.size Va (Gt.free p a sl nd nc) has since ∧ Whole (wA.setRow w4.heap.size Va) gk 33 (ccs ⟨2, sl, nd, nc, ah⟩).toArray) := Lib.hid ⟨HA1.out.2.1.put HA1.out.1, HA1.out.2.2.rowFar hgk Va⟩
            clear HA1 z7 hgk za oa
            generalize wA.setRow w4.heap.size Va = wB at *
            have hp := HK.out.1.on HB.out.1.below
            have j1 : wB.drew.cell? ⟨gk, 1, none⟩ = some (.int .i64 sl) ∧ wB.drew.cell? ⟨gk, 2, none⟩ = some (.int .i64 nd) ∧ wB.drew.cell? ⟨w.heap.size, 1, none⟩ = some (.int .i64 (K : Int)) ∧ True :=
              ⟨HB.out.2.cell 1, HB.out.2.cell 2, by rw [← HP.out.2.1]; exact hp.cells.2.1, trivial⟩
            have hdr : Below wB.heap.size wB wB.drew := (Below.refl _ _).drew
            have HB2 : Hid (Sto w4 wB.drew w4.heap.size Va (Gt.free p a sl nd nc) has since) := Lib.hid (HB.out.1.on hdr)
            clear hp hdr
            by_cases zs : sl ≥ 0
            case neg =>
              have zs' : ¬ (0 ≤ sl) := zs
              have HV : Hid (Gt.Inv p (Gt.free p a sl nd nc) has since now2 ∧ ∀ k, 0 ≤ since k) := Lib.hid ⟨Gt.inv_free HV.out.1 sl nd nc has (fun k _ => by rw [if_neg]; omega), HV.out.2⟩
              refine wp_region_held_drew (S := fun wq => wq.cell? ⟨gk, 1, none⟩ = some (.int .i64 sl) ∧ wq.cell? ⟨gk, 2, none⟩ = some (.int .i64 nd) ∧ wq.cell? ⟨w.heap.size, 1, none⟩ = some (.int .i64 (K : Int)) ∧ True) (by kernel_rfl) j1 (fun hHeld => ?_)
              refine wpAnyH_take (i := 0) (v := .pointer (some ⟨gk, 1, none⟩)) rfl (by kernel_rfl) (by kernel_rfl) (by kernel_rfl) (fun _ _ _ h => h) (Or.inl ⟨by rfl, (by intro w hSw; (try dsimp only at hSw); go_simp)⟩) (by assumption) ?_
              try simp only [Act.put, List.getElem_toArray, List.getElem_cons_zero, List.getElem_cons_succ, List.setIfInBounds_toArray, List.set_cons_zero, List.set_cons_succ]
              refine wpAnyH_take (i := 1) (v := .int .i64 sl) rfl (by kernel_rfl) (by kernel_rfl) (by kernel_rfl) (fun _ _ _ h => h) (Or.inl ⟨by rfl, (by intro wq hSw; have hq := hSw.1; clear hSw; go_simp)⟩) (by assumption) ?_
              try simp only [Act.put, List.getElem_toArray, List.getElem_cons_zero, List.getElem_cons_succ, List.setIfInBounds_toArray, List.set_cons_zero, List.set_cons_succ]
              refine wpAnyH_take (i := 2) (v := .bool false) rfl (by kernel_rfl) (by kernel_rfl) (by kernel_rfl) (fun _ _ _ h => h) (Or.inl ⟨by rfl, (by intro w hSw; (try dsimp only at hSw); go_simp)⟩) (by assumption) ?_
              try simp only [Act.put, List.getElem_toArray, List.getElem_cons_zero, List.getElem_cons_succ, List.setIfInBounds_toArray, List.set_cons_zero, List.set_cons_succ]
              refine wpAnyH_take (i := 3) (v := .bool false) rfl (by kernel_rfl) (by kernel_rfl) (by kernel_rfl) (fun _ _ _ h => h) (Or.inl ⟨by rfl, (by intro w hSw; (try dsimp only at hSw); go_simp)⟩) (by assumption) ?_
              try simp only [Act.put, List.getElem_toArray, List.getElem_cons_zero, List.getElem_cons_succ, List.setIfInBounds_toArray, List.set_cons_zero, List.set_cons_succ]
              refine wpAnyH_take (i := 4) (v := undef) rfl (by kernel_rfl) (by kernel_rfl) (by kernel_rfl) (fun _ _ _ h => h) (Or.inr ⟨by rfl, rfl⟩) (by assumption) ?_
              try simp only [Act.put, List.getElem_toArray, List.getElem_cons_zero, List.getElem_cons_succ, List.setIfInBounds_toArray, List.set_cons_zero, List.set_cons_succ]
              refine wpAnyH_take (i := 5) (v := undef) rfl (by kernel_rfl) (by kernel_rfl) (by kernel_rfl) (fun _ _ _ h => h) (Or.inr ⟨by rfl, rfl⟩) (by assumption) ?_
              try simp only [Act.put, List.getElem_toArray, List.getElem_cons_zero, List.getElem_cons_succ, List.setIfInBounds_toArray, List.set_cons_zero, List.set_cons_succ]
              refine wpAnyH_take (i := 6) (v := undef) rfl (by kernel_rfl) (by kernel_rfl) (by kernel_rfl) (fun _ _ _ h => h) (Or.inr ⟨by rfl, rfl⟩) (by assumption) ?_
              try simp only [Act.put, List.getElem_toArray, List.getElem_cons_zero, List.getElem_cons_succ, List.setIfInBounds_toArray, List.set_cons_zero, List.set_cons_succ]
              refine wpAnyH_take (i := 7) (v := undef) rfl (by kernel_rfl) (by kernel_rfl) (by kernel_rfl) (fun _ _ _ h => h) (Or.inr ⟨by rfl, rfl⟩) (by assumption) ?_
              try simp only [Act.put, List.getElem_toArray, List.getElem_cons_zero, List.getElem_cons_succ, List.setIfInBounds_toArray, List.set_cons_zero, List.set_cons_succ]
              refine wpAnyH_take (i := 8) (v := undef) rfl (by kernel_rfl) (by kernel_rfl) (by kernel_rfl) (fun _ _ _ h => h) (Or.inr ⟨by rfl, rfl⟩) (by assumption) ?_
              try simp only [Act.put, List.getElem_toArray, List.getElem_cons_zero, List.getElem_cons_succ, List.setIfInBounds_toArray, List.set_cons_zero, List.set_cons_succ]
              refine wpAnyH_take (i := 9) (v := .bool false) rfl (by kernel_rfl) (by kernel_rfl) (by kernel_rfl) (fun _ _ _ h => h) (Or.inl ⟨by rfl, (by intro w hSw; (try dsimp only at hSw); go_simp)⟩) (by assumption) ?_
              try simp only [Act.put, List.getElem_toArray, List.getElem_cons_zero, List.getElem_cons_succ, List.setIfInBounds_toArray, List.set_cons_zero, List.set_cons_succ]
              refine wpAnyH_take (i := 10) (v := .bool false) rfl (by kernel_rfl) (by kernel_rfl) (by kernel_rfl) (fun _ _ _ h => h) (Or.inl ⟨by rfl, (by intro w hSw; (try dsimp only at hSw); go_simp)⟩) (by assumption) ?_
              try simp only [Act.put, List.getElem_toArray, List.getElem_cons_zero, List.getElem_cons_succ, List.setIfInBounds_toArray, List.set_cons_zero, List.set_cons_succ]
              refine wpAnyH_take (i := 11) (v := undef) rfl (by kernel_rfl) (by kernel_rfl) (by kernel_rfl) (fun _ _ _ h => h) (Or.inr ⟨by rfl, rfl⟩) (by assumption) ?_
              try simp only [Act.put, List.getElem_toArray, List.getElem_cons_zero, List.getElem_cons_succ, List.setIfInBounds_toArray, List.set_cons_zero, List.set_cons_succ]
              refine wpAnyH_take (i := 12) (v := undef) rfl (by kernel_rfl) (by kernel_rfl) (by kernel_rfl) (fun _ _ _ h => h) (Or.inr ⟨by rfl, rfl⟩) (by assumption) ?_
              try simp only [Act.put, List.getElem_toArray, List.getElem_cons_zero, List.getElem_cons_succ, List.setIfInBounds_toArray, List.set_cons_zero, List.set_cons_succ]
              refine wpAnyH_take (i := 13) (v := undef) rfl (by kernel_rfl) (by kernel_rfl) (by kernel_rfl) (fun _ _ _ h => h) (Or.inr ⟨by rfl, rfl⟩) (by assumption) ?_
              try simp only [Act.put, List.getElem_toArray, List.getElem_cons_zero, List.getElem_cons_succ, List.setIfInBounds_toArray, List.set_cons_zero, List.set_cons_succ]
              refine wpAnyH_take (i := 14) (v := undef) rfl (by kernel_rfl) (by kernel_rfl) (by kernel_rfl) (fun _ _ _ h => h) (Or.inr ⟨by rfl, rfl⟩) (by assumption) ?_
              try simp only [Act.put, List.getElem_toArray, List.getElem_cons_zero, List.getElem_cons_succ, List.setIfInBounds_toArray, List.set_cons_zero, List.set_cons_succ]
              refine wpAnyH_take (i := 15) (v := undef) rfl (by kernel_rfl) (by kernel_rfl) (by kernel_rfl) (fun _ _ _ h => h) (Or.inr ⟨by rfl, rfl⟩) (by assumption) ?_
              try simp only [Act.put, List.getElem_toArray, List.getElem_cons_zero, List.getElem_cons_succ, List.setIfInBounds_toArray, List.set_cons_zero, List.set_cons_succ]
              refine wpAnyH_take (i := 16) (v := undef) rfl (by kernel_rfl) (by kernel_rfl) (by kernel_rfl) (fun _ _ _ h => h) (Or.inr ⟨by rfl, rfl⟩) (by assumption) ?_
              try simp only [Act.put, List.getElem_toArray, List.getElem_cons_zero, List.getElem_cons_succ, List.setIfInBounds_toArray, List.set_cons_zero, List.set_cons_succ]
              refine wpAnyH_take (i := 17) (v := undef) rfl (by kernel_rfl) (by kernel_rfl) (by kernel_rfl) (fun _ _ _ h => h) (Or.inr ⟨by rfl, rfl⟩) (by assumption) ?_
              try simp only [Act.put, List.getElem_toArray, List.getElem_cons_zero, List.getElem_cons_succ, List.setIfInBounds_toArray, List.set_cons_zero, List.set_cons_succ]
              refine wpAnyH_take (i := 18) (v := .bool false) rfl (by kernel_rfl) (by kernel_rfl) (by kernel_rfl) (fun _ _ _ h => h) (Or.inl ⟨by rfl, (by intro w hSw; (try dsimp only at hSw); go_simp)⟩) (by assumption) ?_
              try simp only [Act.put, List.getElem_toArray, List.getElem_cons_zero, List.getElem_cons_succ, List.setIfInBounds_toArray, List.set_cons_zero, List.set_cons_succ]
              refine wpAnyH_done (by kernel_rfl) ?_ _
              clear hHeld j1
              have HE := HB2
              have HZ : Hid (∃ V a has since, Sto w4 wB.drew w4.heap.size V a has since ∧ Gt.Inv p a has since now2 ∧ ∀ k, 0 ≤ since k) := Lib.hid ⟨_, _, _, _, HE.out, HV.out.1, HV.out.2⟩
              clear HE
              go_wp2
              exact ⟨⟨i + 1, now2, by omega, by go_num, rfl, hn2.1, hn2.2, HZ⟩, by simp [intOf] <;> omega⟩
            by_cases zk : sl < (K : Int)
            case neg =>
              have zk' : decide (sl < (K : Int)) = false := decide_eq_false zk
              have HV : Hid (Gt.Inv p (Gt.free p a sl nd nc) has since now2 ∧ ∀ k, 0 ≤ since k) := Lib.hid ⟨Gt.inv_free HV.out.1 sl nd nc has (fun k hk => by rw [HP.out.2.1] at hk; rw [if_neg]; omega), HV.out.2⟩
              refine wp_region_held_drew (S := fun wq => wq.cell? ⟨gk, 1, none⟩ = some (.int .i64 sl) ∧ wq.cell? ⟨gk, 2, none⟩ = some (.int .i64 nd) ∧ wq.cell? ⟨w.heap.size, 1, none⟩ = some (.int .i64 (K : Int)) ∧ True) (by kernel_rfl) j1 (fun hHeld => ?_)
              refine wpAnyH_take (i := 0) (v := .pointer (some ⟨gk, 1, none⟩)) rfl (by kernel_rfl) (by kernel_rfl) (by kernel_rfl) (fun _ _ _ h => h) (Or.inl ⟨by rfl, (by intro w hSw; (try dsimp only at hSw); go_simp)⟩) (by assumption) ?_
              try simp only [Act.put, List.getElem_toArray, List.getElem_cons_zero, List.getElem_cons_succ, List.setIfInBounds_toArray, List.set_cons_zero, List.set_cons_succ]
              refine wpAnyH_take (i := 1) (v := .int .i64 sl) rfl (by kernel_rfl) (by kernel_rfl) (by kernel_rfl) (fun _ _ _ h => h) (Or.inl ⟨by rfl, (by intro wq hSw; have hq := hSw.1; clear hSw; go_simp)⟩) (by assumption) ?_
              try simp only [Act.put, List.getElem_toArray, List.getElem_cons_zero, List.getElem_cons_succ, List.setIfInBounds_toArray, List.set_cons_zero, List.set_cons_succ]
              refine wpAnyH_take (i := 2) (v := .bool true) rfl (by kernel_rfl) (by kernel_rfl) (by kernel_rfl) (fun _ _ _ h => h) (Or.inl ⟨by rfl, (by intro w hSw; (try dsimp only at hSw); go_simp)⟩) (by assumption) ?_
              try simp only [Act.put, List.getElem_toArray, List.getElem_cons_zero, List.getElem_cons_succ, List.setIfInBounds_toArray, List.set_cons_zero, List.set_cons_succ]
              refine wpAnyH_take (i := 3) (v := .bool true) rfl (by kernel_rfl) (by kernel_rfl) (by kernel_rfl) (fun _ _ _ h => h) (Or.inl ⟨by rfl, (by intro w hSw; (try dsimp only at hSw); go_simp)⟩) (by assumption) ?_
              try simp only [Act.put, List.getElem_toArray, List.getElem_cons_zero, List.getElem_cons_succ, List.setIfInBounds_toArray, List.set_cons_zero, List.set_cons_succ]
              refine wpAnyH_take (i := 4) (v := .pointer (some ⟨gk, 1, none⟩)) rfl (by kernel_rfl) (by kernel_rfl) (by kernel_rfl) (fun _ _ _ h => h) (Or.inl ⟨by rfl, (by intro w hSw; (try dsimp only at hSw); go_simp)⟩) (by assumption) ?_
              try simp only [Act.put, List.getElem_toArray, List.getElem_cons_zero, List.getElem_cons_succ, List.setIfInBounds_toArray, List.set_cons_zero, List.set_cons_succ]
              refine wpAnyH_take (i := 5) (v := .int .i64 sl) rfl (by kernel_rfl) (by kernel_rfl) (by kernel_rfl) (fun _ _ _ h => h) (Or.inl ⟨by rfl, (by intro wq hSw; have hq := hSw.1; clear hSw; go_simp)⟩) (by assumption) ?_
              try simp only [Act.put, List.getElem_toArray, List.getElem_cons_zero, List.getElem_cons_succ, List.setIfInBounds_toArray, List.set_cons_zero, List.set_cons_succ]
              refine wpAnyH_take (i := 6) (v := .pointer (some ⟨w.heap.size, 1, none⟩)) rfl (by kernel_rfl) (by kernel_rfl) (by kernel_rfl) (fun _ _ _ h => h) (Or.inl ⟨by rfl, (by intro w hSw; (try dsimp only at hSw); go_simp)⟩) (by assumption) ?_
              try simp only [Act.put, List.getElem_toArray, List.getElem_cons_zero, List.getElem_cons_succ, List.setIfInBounds_toArray, List.set_cons_zero, List.set_cons_succ]
              refine wpAnyH_take (i := 7) (v := .int .i64 (K : Int)) rfl (by kernel_rfl) (by kernel_rfl) (by kernel_rfl) (fun _ _ _ h => h) (Or.inl ⟨by rfl, (by intro wq hSw; have hq := hSw.2.2.1; clear hSw; go_simp)⟩) (by assumption) ?_
              try simp only [Act.put, List.getElem_toArray, List.getElem_cons_zero, List.getElem_cons_succ, List.setIfInBounds_toArray, List.set_cons_zero, List.set_cons_succ]
              refine wpAnyH_take (i := 8) (v := .bool false) rfl (by kernel_rfl) (by kernel_rfl) (by kernel_rfl) (fun _ _ _ h => h) (Or.inl ⟨by rfl, (by intro w hSw; (try dsimp only at hSw); go_simp)⟩) (by assumption) ?_
              try simp only [Act.put, List.getElem_toArray, List.getElem_cons_zero, List.getElem_cons_succ, List.setIfInBounds_toArray, List.set_cons_zero, List.set_cons_succ]
              refine wpAnyH_take (i := 9) (v := .bool false) rfl (by kernel_rfl) (by kernel_rfl) (by kernel_rfl) (fun _ _ _ h => h) (Or.inl ⟨by rfl, (by intro w hSw; (try dsimp only at hSw); go_simp)⟩) (by assumption) ?_
              try simp only [Act.put, List.getElem_toArray, List.getElem_cons_zero, List.getElem_cons_succ, List.setIfInBounds_toArray, List.set_cons_zero, List.set_cons_succ]
              refine wpAnyH_take (i := 10) (v := .bool false) rfl (by kernel_rfl) (by kernel_rfl) (by kernel_rfl) (fun _ _ _ h => h) (Or.inl ⟨by rfl, (by intro w hSw; (try dsimp only at hSw); go_simp)⟩) (by assumption) ?_
              try simp only [Act.put, List.getElem_toArray, List.getElem_cons_zero, List.getElem_cons_succ, List.setIfInBounds_toArray, List.set_cons_zero, List.set_cons_succ]
              refine wpAnyH_take (i := 11) (v := undef) rfl (by kernel_rfl) (by kernel_rfl) (by kernel_rfl) (fun _ _ _ h => h) (Or.inr ⟨by rfl, rfl⟩) (by assumption) ?_
              try simp only [Act.put, List.getElem_toArray, List.getElem_cons_zero, List.getElem_cons_succ, List.setIfInBounds_toArray, List.set_cons_zero, List.set_cons_succ]
              refine wpAnyH_take (i := 12) (v := undef) rfl (by kernel_rfl) (by kernel_rfl) (by kernel_rfl) (fun _ _ _ h => h) (Or.inr ⟨by rfl, rfl⟩) (by assumption) ?_
              try simp only [Act.put, List.getElem_toArray, List.getElem_cons_zero, List.getElem_cons_succ, List.setIfInBounds_toArray, List.set_cons_zero, List.set_cons_succ]
              refine wpAnyH_take (i := 13) (v := undef) rfl (by kernel_rfl) (by kernel_rfl) (by kernel_rfl) (fun _ _ _ h => h) (Or.inr ⟨by rfl, rfl⟩) (by assumption) ?_
              try simp only [Act.put, List.getElem_toArray, List.getElem_cons_zero, List.getElem_cons_succ, List.setIfInBounds_toArray, List.set_cons_zero, List.set_cons_succ]
              refine wpAnyH_take (i := 14) (v := undef) rfl (by kernel_rfl) (by kernel_rfl) (by kernel_rfl) (fun _ _ _ h => h) (Or.inr ⟨by rfl, rfl⟩) (by assumption) ?_
              try simp only [Act.put, List.getElem_toArray, List.getElem_cons_zero, List.getElem_cons_succ, List.setIfInBounds_toArray, List.set_cons_zero, List.set_cons_succ]
              refine wpAnyH_take (i := 15) (v := undef) rfl (by kernel_rfl) (by kernel_rfl) (by kernel_rfl) (fun _ _ _ h => h) (Or.inr ⟨by rfl, rfl⟩) (by assumption) ?_
              try simp only [Act.put, List.getElem_toArray, List.getElem_cons_zero, List.getElem_cons_succ, List.setIfInBounds_toArray, List.set_cons_zero, List.set_cons_succ]
              refine wpAnyH_take (i := 16) (v := undef) rfl (by kernel_rfl) (by kernel_rfl) (by kernel_rfl) (fun _ _ _ h => h) (Or.inr ⟨by rfl, rfl⟩) (by assumption) ?_
              try simp only [Act.put, List.getElem_toArray, List.getElem_cons_zero, List.getElem_cons_succ, List.setIfInBounds_toArray, List.set_cons_zero, List.set_cons_succ]
              refine wpAnyH_take (i := 17) (v := undef) rfl (by kernel_rfl) (by kernel_rfl) (by kernel_rfl) (fun _ _ _ h => h) (Or.inr ⟨by rfl, rfl⟩) (by assumption) ?_
              try simp only [Act.put, List.getElem_toArray, List.getElem_cons_zero, List.getElem_cons_succ, List.setIfInBounds_toArray, List.set_cons_zero, List.set_cons_succ]
              refine wpAnyH_take (i := 18) (v := .bool false) rfl (by kernel_rfl) (by kernel_rfl) (by kernel_rfl) (fun _ _ _ h => h) (Or.inl ⟨by rfl, (by intro w hSw; (try dsimp only at hSw); go_simp)⟩) (by assumption) ?_
              try simp only [Act.put, List.getElem_toArray, List.getElem_cons_zero, List.getElem_cons_succ, List.setIfInBounds_toArray, List.set_cons_zero, List.set_cons_succ]
              refine wpAnyH_done (by kernel_rfl) ?_ _
              clear hHeld j1
              have HE := HB2
              have HZ : Hid (∃ V a has since, Sto w4 wB.drew w4.heap.size V a has since ∧ Gt.Inv p a has since now2 ∧ ∀ k, 0 ≤ since k) := Lib.hid ⟨_, _, _, _, HE.out, HV.out.1, HV.out.2⟩
              clear HE
              go_wp2
              exact ⟨⟨i + 1, now2, by omega, by go_num, rfl, hn2.1, hn2.2, HZ⟩, by simp [intOf] <;> omega⟩
            obtain ⟨s, hs⟩ : ∃ s : Nat, sl = (s : Int) := ⟨sl.toNat, by omega⟩
            subst hs
            have hs9 : s < 9 := by omega
            have ys : (s : Int) < 9 := by omega
            obtain ⟨h, hh⟩ : ∃ h, has s = h := ⟨_, rfl⟩
            have j2 : wB.drew.cell? ⟨gk, 1, none⟩ = some (.int .i64 (s : Int)) ∧ wB.drew.cell? ⟨gk, 2, none⟩ = some (.int .i64 nd) ∧ wB.drew.cell? ⟨w.heap.size, 1, none⟩ = some (.int .i64 (K : Int)) ∧ wB.drew.cell? ⟨w4.heap.size + 1, s, none⟩ = some (.int .i64 h) := ⟨j1.1, j1.2.1, j1.2.2.1, by rw [← hh]; exact HB2.out.h hs9⟩
            clear j1
            refine wp_region_held_drew (S := fun wq => wq.cell? ⟨gk, 1, none⟩ = some (.int .i64 (s : Int)) ∧ wq.cell? ⟨gk, 2, none⟩ = some (.int .i64 nd) ∧ wq.cell? ⟨w.heap.size, 1, none⟩ = some (.int .i64 (K : Int)) ∧ wq.cell? ⟨w4.heap.size + 1, s, none⟩ = some (.int .i64 h)) (by kernel_rfl) j2 (fun hHeld => ?_)
            by_cases zn : h = nd
            · have q2 : (h == nd) = true := by simp [zn]
              have HV : Hid (Gt.Inv p (Gt.free p a (s : Int) nd nc) (Gt.upd has s (-1)) since now2 ∧ ∀ k, 0 ≤ since k) := Lib.hid ⟨Gt.inv_free HV.out.1 (s : Int) nd nc (Gt.upd has s (-1)) (fun k _ => by
                unfold Gt.upd
                by_cases e : k = s
                · subst e
                  rw [if_pos rfl, if_pos ⟨rfl, by rw [hh]; exact zn⟩]
                · rw [if_neg e, if_neg (fun h => e (by omega))]), HV.out.2⟩
              clear zn hh
              refine wpAnyH_take (i := 0) (v := .pointer (some ⟨gk, 1, none⟩)) rfl (by kernel_rfl) (by kernel_rfl) (by kernel_rfl) (fun _ _ _ h => h) (Or.inl ⟨by rfl, (by intro w hSw; (try dsimp only at hSw); go_simp)⟩) (by assumption) ?_
              try simp only [Act.put, List.getElem_toArray, List.getElem_cons_zero, List.getElem_cons_succ, List.setIfInBounds_toArray, List.set_cons_zero, List.set_cons_succ]
              refine wpAnyH_take (i := 1) (v := .int .i64 (s : Int)) rfl (by kernel_rfl) (by kernel_rfl) (by kernel_rfl) (fun _ _ _ h => h) (Or.inl ⟨by rfl, (by intro wq hSw; have hq := hSw.1; clear hSw; go_simp)⟩) (by assumption) ?_
              try simp only [Act.put, List.getElem_toArray, List.getElem_cons_zero, List.getElem_cons_succ, List.setIfInBounds_toArray, List.set_cons_zero, List.set_cons_succ]
              refine wpAnyH_take (i := 2) (v := .bool true) rfl (by kernel_rfl) (by kernel_rfl) (by kernel_rfl) (fun _ _ _ h => h) (Or.inl ⟨by rfl, (by intro w hSw; (try dsimp only at hSw); go_simp)⟩) (by assumption) ?_
              try simp only [Act.put, List.getElem_toArray, List.getElem_cons_zero, List.getElem_cons_succ, List.setIfInBounds_toArray, List.set_cons_zero, List.set_cons_succ]
              refine wpAnyH_take (i := 3) (v := .bool true) rfl (by kernel_rfl) (by kernel_rfl) (by kernel_rfl) (fun _ _ _ h => h) (Or.inl ⟨by rfl, (by intro w hSw; (try dsimp only at hSw); go_simp)⟩) (by assumption) ?_
              try simp only [Act.put, List.getElem_toArray, List.getElem_cons_zero, List.getElem_cons_succ, List.setIfInBounds_toArray, List.set_cons_zero, List.set_cons_succ]
              refine wpAnyH_take (i := 4) (v := .pointer (some ⟨gk, 1, none⟩)) rfl (by kernel_rfl) (by kernel_rfl) (by kernel_rfl) (fun _ _ _ h => h) (Or.inl ⟨by rfl, (by intro w hSw; (try dsimp only at hSw); go_simp)⟩) (by assumption) ?_
              try simp only [Act.put, List.getElem_toArray, List.getElem_cons_zero, List.getElem_cons_succ, List.setIfInBounds_toArray, List.set_cons_zero, List.set_cons_succ]
              refine wpAnyH_take (i := 5) (v := .int .i64 (s : Int)) rfl (by kernel_rfl) (by kernel_rfl) (by kernel_rfl) (fun _ _ _ h => h) (Or.inl ⟨by rfl, (by intro wq hSw; have hq := hSw.1; clear hSw; go_simp)⟩) (by assumption) ?_
              try simp only [Act.put, List.getElem_toArray, List.getElem_cons_zero, List.getElem_cons_succ, List.setIfInBounds_toArray, List.set_cons_zero, List.set_cons_succ]
              refine wpAnyH_take (i := 6) (v := .pointer (some ⟨w.heap.size, 1, none⟩)) rfl (by kernel_rfl) (by kernel_rfl) (by kernel_rfl) (fun _ _ _ h => h) (Or.inl ⟨by rfl, (by intro w hSw; (try dsimp only at hSw); go_simp)⟩) (by assumption) ?_
              try simp only [Act.put, List.getElem_toArray, List.getElem_cons_zero, List.getElem_cons_succ, List.setIfInBounds_toArray, List.set_cons_zero, List.set_cons_succ]
              refine wpAnyH_take (i := 7) (v := .int .i64 (K : Int)) rfl (by kernel_rfl) (by kernel_rfl) (by kernel_rfl) (fun _ _ _ h => h) (Or.inl ⟨by rfl, (by intro wq hSw; have hq := hSw.2.2.1; clear hSw; go_simp)⟩) (by assumption) ?_
              try simp only [Act.put, List.getElem_toArray, List.getElem_cons_zero, List.getElem_cons_succ, List.setIfInBounds_toArray, List.set_cons_zero, List.set_cons_succ]
              refine wpAnyH_take (i := 8) (v := .bool true) rfl (by kernel_rfl) (by kernel_rfl) (by kernel_rfl) (fun _ _ _ h => h) (Or.inl ⟨by rfl, (by intro w hSw; (try dsimp only at hSw); go_simp)⟩) (by assumption) ?_
              try simp only [Act.put, List.getElem_toArray, List.getElem_cons_zero, List.getElem_cons_succ, List.setIfInBounds_toArray, List.set_cons_zero, List.set_cons_succ]
              refine wpAnyH_take (i := 9) (v := .bool true) rfl (by kernel_rfl) (by kernel_rfl) (by kernel_rfl) (fun _ _ _ h => h) (Or.inl ⟨by rfl, (by intro w hSw; (try dsimp only at hSw); go_simp)⟩) (by assumption) ?_
              try simp only [Act.put, List.getElem_toArray, List.getElem_cons_zero, List.getElem_cons_succ, List.setIfInBounds_toArray, List.set_cons_zero, List.set_cons_succ]
              refine wpAnyH_take (i := 10) (v := .bool true) rfl (by kernel_rfl) (by kernel_rfl) (by kernel_rfl) (fun _ _ _ h => h) (Or.inl ⟨by rfl, (by intro w hSw; (try dsimp only at hSw); go_simp)⟩) (by assumption) ?_
              try simp only [Act.put, List.getElem_toArray, List.getElem_cons_zero, List.getElem_cons_succ, List.setIfInBounds_toArray, List.set_cons_zero, List.set_cons_succ]
              refine wpAnyH_take (i := 11) (v := .pointer (some ⟨gk, 1, none⟩)) rfl (by kernel_rfl) (by kernel_rfl) (by kernel_rfl) (fun _ _ _ h => h) (Or.inl ⟨by rfl, (by intro w hSw; (try dsimp only at hSw); go_simp)⟩) (by assumption) ?_
              try simp only [Act.put, List.getElem_toArray, List.getElem_cons_zero, List.getElem_cons_succ, List.setIfInBounds_toArray, List.set_cons_zero, List.set_cons_succ]
              refine wpAnyH_take (i := 12) (v := .int .i64 (s : Int)) rfl (by kernel_rfl) (by kernel_rfl) (by kernel_rfl) (fun _ _ _ h => h) (Or.inl ⟨by rfl, (by intro wq hSw; have hq := hSw.1; clear hSw; go_simp)⟩) (by assumption) ?_
              try simp only [Act.put, List.getElem_toArray, List.getElem_cons_zero, List.getElem_cons_succ, List.setIfInBounds_toArray, List.set_cons_zero, List.set_cons_succ]
              refine wpAnyH_take (i := 13) (v := .pointer (some ⟨w4.heap.size + 1, s, none⟩)) rfl (by kernel_rfl) (by kernel_rfl) (by kernel_rfl) (fun _ _ _ h => h) (Or.inl ⟨by rfl, (by intro w hSw; (try dsimp only at hSw); go_simp)⟩) (by assumption) ?_
              try simp only [Act.put, List.getElem_toArray, List.getElem_cons_zero, List.getElem_cons_succ, List.setIfInBounds_toArray, List.set_cons_zero, List.set_cons_succ]
              refine wpAnyH_take (i := 14) (v := .int .i64 h) rfl (by kernel_rfl) (by kernel_rfl) (by kernel_rfl) (fun _ _ _ h => h) (Or.inl ⟨by rfl, (by intro wq hSw; have hq := hSw.2.2.2; clear hSw; go_simp)⟩) (by assumption) ?_
              try simp only [Act.put, List.getElem_toArray, List.getElem_cons_zero, List.getElem_cons_succ, List.setIfInBounds_toArray, List.set_cons_zero, List.set_cons_succ]
              refine wpAnyH_take (i := 15) (v := .pointer (some ⟨gk, 2, none⟩)) rfl (by kernel_rfl) (by kernel_rfl) (by kernel_rfl) (fun _ _ _ h => h) (Or.inl ⟨by rfl, (by intro w hSw; (try dsimp only at hSw); go_simp)⟩) (by assumption) ?_
              try simp only [Act.put, List.getElem_toArray, List.getElem_cons_zero, List.getElem_cons_succ, List.setIfInBounds_toArray, List.set_cons_zero, List.set_cons_succ]
              refine wpAnyH_take (i := 16) (v := .int .i64 nd) rfl (by kernel_rfl) (by kernel_rfl) (by kernel_rfl) (fun _ _ _ h => h) (Or.inl ⟨by rfl, (by intro wq hSw; have hq := hSw.2.1; clear hSw; go_simp)⟩) (by assumption) ?_
              try simp only [Act.put, List.getElem_toArray, List.getElem_cons_zero, List.getElem_cons_succ, List.setIfInBounds_toArray, List.set_cons_zero, List.set_cons_succ]
              refine wpAnyH_take (i := 17) (v := .bool true) rfl (by kernel_rfl) (by kernel_rfl) (by kernel_rfl) (fun _ _ _ h => h) (Or.inl ⟨by rfl, (by intro w hSw; (try dsimp only at hSw); go_simp)⟩) (by assumption) ?_
              try simp only [Act.put, List.getElem_toArray, List.getElem_cons_zero, List.getElem_cons_succ, List.setIfInBounds_toArray, List.set_cons_zero, List.set_cons_succ]
              refine wpAnyH_take (i := 18) (v := .bool true) rfl (by kernel_rfl) (by kernel_rfl) (by kernel_rfl) (fun _ _ _ h => h) (Or.inl ⟨by rfl, (by intro w hSw; (try dsimp only at hSw); go_simp)⟩) (by assumption) ?_
              try simp only [Act.put, List.getElem_toArray, List.getElem_cons_zero, List.getElem_cons_succ, List.setIfInBounds_toArray, List.set_cons_zero, List.set_cons_succ]
              refine wpAnyH_done (by kernel_rfl) ?_ _
              clear hHeld
              have m1 := j2.1
              clear j2
              generalize wB.drew = wX at *
              have c8 := HB2.out.h hs9
              have f8 : wX.frozen? ⟨w4.heap.size + 1, s, none⟩ = false := HB2.out.has.frozen s
              have HE : Hid (Sto w4 (wX.setCell ⟨w4.heap.size + 1, s, none⟩ (.int .i64 (-1))) w4.heap.size Va (Gt.free p a (s : Int) nd nc) (Gt.upd has s (-1)) since) := Lib.hid HB2.out.set8
              have HZ : Hid (∃ V a has since, Sto w4 (wX.setCell ⟨w4.heap.size + 1, s, none⟩ (.int .i64 (-1))) w4.heap.size V a has since ∧ Gt.Inv p a has since now2 ∧ ∀ k, 0 ≤ since k) := Lib.hid ⟨_, _, _, _, HE.out, HV.out.1, HV.out.2⟩
              clear HE
              go_wp2
              exact ⟨⟨i + 1, now2, by omega, by go_num, rfl, hn2.1, hn2.2, HZ⟩, by simp [intOf] <;> omega⟩
            · have q2 : (h == nd) = false := by simp [zn]
              have HV : Hid (Gt.Inv p (Gt.free p a (s : Int) nd nc) has since now2 ∧ ∀ k, 0 ≤ since k) := Lib.hid ⟨Gt.inv_free HV.out.1 (s : Int) nd nc has (fun k _ => by
                rw [if_neg]
                rintro ⟨e1, e2⟩
                have : k = s := by omega
                subst this
                exact zn (by rw [← hh]; exact e2)), HV.out.2⟩
              clear zn hh
              refine wpAnyH_take (i := 0) (v := .pointer (some ⟨gk, 1, none⟩)) rfl (by kernel_rfl) (by kernel_rfl) (by kernel_rfl) (fun _ _ _ h => h) (Or.inl ⟨by rfl, (by intro w hSw; (try dsimp only at hSw); go_simp)⟩) (by assumption) ?_
              try simp only [Act.put, List.getElem_toArray, List.getElem_cons_zero, List.getElem_cons_succ, List.setIfInBounds_toArray, List.set_cons_zero, List.set_cons_succ]
              refine wpAnyH_take (i := 1) (v := .int .i64 (s : Int)) rfl (by kernel_rfl) (by kernel_rfl) (by kernel_rfl) (fun _ _ _ h => h) (Or.inl ⟨by rfl, (by intro wq hSw; have hq := hSw.1; clear hSw; go_simp)⟩) (by assumption) ?_
              try simp only [Act.put, List.getElem_toArray, List.getElem_cons_zero, List.getElem_cons_succ, List.setIfInBounds_toArray, List.set_cons_zero, List.set_cons_succ]
              refine wpAnyH_take (i := 2) (v := .bool true) rfl (by kernel_rfl) (by kernel_rfl) (by kernel_rfl) (fun _ _ _ h => h) (Or.inl ⟨by rfl, (by intro w hSw; (try dsimp only at hSw); go_simp)⟩) (by assumption) ?_
              try simp only [Act.put, List.getElem_toArray, List.getElem_cons_zero, List.getElem_cons_succ, List.setIfInBounds_toArray, List.set_cons_zero, List.set_cons_succ]
              refine wpAnyH_take (i := 3) (v := .bool true) rfl (by kernel_rfl) (by kernel_rfl) (by kernel_rfl) (fun _ _ _ h => h) (Or.inl ⟨by rfl, (by intro w hSw; (try dsimp only at hSw); go_simp)⟩) (by assumption) ?_
              try simp only [Act.put, List.getElem_toArray, List.getElem_cons_zero, List.getElem_cons_succ, List.setIfInBounds_toArray, List.set_cons_zero, List.set_cons_succ]
              refine wpAnyH_take (i := 4) (v := .pointer (some ⟨gk, 1, none⟩)) rfl (by kernel_rfl) (by kernel_rfl) (by kernel_rfl) (fun _ _ _ h => h) (Or.inl ⟨by rfl, (by intro w hSw; (try dsimp only at hSw); go_simp)⟩) (by assumption) ?_
              try simp only [Act.put, List.getElem_toArray, List.getElem_cons_zero, List.getElem_cons_succ, List.setIfInBounds_toArray, List.set_cons_zero, List.set_cons_succ]
              refine wpAnyH_take (i := 5) (v := .int .i64 (s : Int)) rfl (by kernel_rfl) (by kernel_rfl) (by kernel_rfl) (fun _ _ _ h => h) (Or.inl ⟨by rfl, (by intro wq hSw; have hq := hSw.1; clear hSw; go_simp)⟩) (by assumption) ?_
              try simp only [Act.put, List.getElem_toArray, List.getElem_cons_zero, List.getElem_cons_succ, List.setIfInBounds_toArray, List.set_cons_zero, List.set_cons_succ]
              refine wpAnyH_take (i := 6) (v := .pointer (some ⟨w.heap.size, 1, none⟩)) rfl (by kernel_rfl) (by kernel_rfl) (by kernel_rfl) (fun _ _ _ h => h) (Or.inl ⟨by rfl, (by intro w hSw; (try dsimp only at hSw); go_simp)⟩) (by assumption) ?_
              try simp only [Act.put, List.getElem_toArray, List.getElem_cons_zero, List.getElem_cons_succ, List.setIfInBounds_toArray, List.set_cons_zero, List.set_cons_succ]
              refine wpAnyH_take (i := 7) (v := .int .i64 (K : Int)) rfl (by kernel_rfl) (by kernel_rfl) (by kernel_rfl) (fun _ _ _ h => h) (Or.inl ⟨by rfl, (by intro wq hSw; have hq := hSw.2.2.1; clear hSw; go_simp)⟩) (by assumption) ?_
              try simp only [Act.put, List.getElem_toArray, List.getElem_cons_zero, List.getElem_cons_succ, List.setIfInBounds_toArray, List.set_cons_zero, List.set_cons_succ]
              refine wpAnyH_take (i := 8) (v := .bool true) rfl (by kernel_rfl) (by kernel_rfl) (by kernel_rfl) (fun _ _ _ h => h) (Or.inl ⟨by rfl, (by intro w hSw; (try dsimp only at hSw); go_simp)⟩) (by assumption) ?_
              try simp only [Act.put, List.getElem_toArray, List.getElem_cons_zero, List.getElem_cons_succ, List.setIfInBounds_toArray, List.set_cons_zero, List.set_cons_succ]
              refine wpAnyH_take (i := 9) (v := .bool true) rfl (by kernel_rfl) (by kernel_rfl) (by kernel_rfl) (fun _ _ _ h => h) (Or.inl ⟨by rfl, (by intro w hSw; (try dsimp only at hSw); go_simp)⟩) (by assumption) ?_
              try simp only [Act.put, List.getElem_toArray, List.getElem_cons_zero, List.getElem_cons_succ, List.setIfInBounds_toArray, List.set_cons_zero, List.set_cons_succ]
              refine wpAnyH_take (i := 10) (v := .bool true) rfl (by kernel_rfl) (by kernel_rfl) (by kernel_rfl) (fun _ _ _ h => h) (Or.inl ⟨by rfl, (by intro w hSw; (try dsimp only at hSw); go_simp)⟩) (by assumption) ?_
              try simp only [Act.put, List.getElem_toArray, List.getElem_cons_zero, List.getElem_cons_succ, List.setIfInBounds_toArray, List.set_cons_zero, List.set_cons_succ]
              refine wpAnyH_take (i := 11) (v := .pointer (some ⟨gk, 1, none⟩)) rfl (by kernel_rfl) (by kernel_rfl) (by kernel_rfl) (fun _ _ _ h => h) (Or.inl ⟨by rfl, (by intro w hSw; (try dsimp only at hSw); go_simp)⟩) (by assumption) ?_
              try simp only [Act.put, List.getElem_toArray, List.getElem_cons_zero, List.getElem_cons_succ, List.setIfInBounds_toArray, List.set_cons_zero, List.set_cons_succ]
              refine wpAnyH_take (i := 12) (v := .int .i64 (s : Int)) rfl (by kernel_rfl) (by kernel_rfl) (by kernel_rfl) (fun _ _ _ h => h) (Or.inl ⟨by rfl, (by intro wq hSw; have hq := hSw.1; clear hSw; go_simp)⟩) (by assumption) ?_
              try simp only [Act.put, List.getElem_toArray, List.getElem_cons_zero, List.getElem_cons_succ, List.setIfInBounds_toArray, List.set_cons_zero, List.set_cons_succ]
              refine wpAnyH_take (i := 13) (v := .pointer (some ⟨w4.heap.size + 1, s, none⟩)) rfl (by kernel_rfl) (by kernel_rfl) (by kernel_rfl) (fun _ _ _ h => h) (Or.inl ⟨by rfl, (by intro w hSw; (try dsimp only at hSw); go_simp)⟩) (by assumption) ?_
              try simp only [Act.put, List.getElem_toArray, List.getElem_cons_zero, List.getElem_cons_succ, List.setIfInBounds_toArray, List.set_cons_zero, List.set_cons_succ]
              refine wpAnyH_take (i := 14) (v := .int .i64 h) rfl (by kernel_rfl) (by kernel_rfl) (by kernel_rfl) (fun _ _ _ h => h) (Or.inl ⟨by rfl, (by intro wq hSw; have hq := hSw.2.2.2; clear hSw; go_simp)⟩) (by assumption) ?_
              try simp only [Act.put, List.getElem_toArray, List.getElem_cons_zero, List.getElem_cons_succ, List.setIfInBounds_toArray, List.set_cons_zero, List.set_cons_succ]
              refine wpAnyH_take (i := 15) (v := .pointer (some ⟨gk, 2, none⟩)) rfl (by kernel_rfl) (by kernel_rfl) (by kernel_rfl) (fun _ _ _ h => h) (Or.inl ⟨by rfl, (by intro w hSw; (try dsimp only at hSw); go_simp)⟩) (by assumption) ?_
              try simp only [Act.put, List.getElem_toArray, List.getElem_cons_zero, List.getElem_cons_succ, List.setIfInBounds_toArray, List.set_cons_zero, List.set_cons_succ]
              refine wpAnyH_take (i := 16) (v := .int .i64 nd) rfl (by kernel_rfl) (by kernel_rfl) (by kernel_rfl) (fun _ _ _ h => h) (Or.inl ⟨by rfl, (by intro wq hSw; have hq := hSw.2.1; clear hSw; go_simp)⟩) (by assumption) ?_
              try simp only [Act.put, List.getElem_toArray, List.getElem_cons_zero, List.getElem_cons_succ, List.setIfInBounds_toArray, List.set_cons_zero, List.set_cons_succ]
              refine wpAnyH_take (i := 17) (v := .bool false) rfl (by kernel_rfl) (by kernel_rfl) (by kernel_rfl) (fun _ _ _ h => h) (Or.inl ⟨by rfl, (by intro w hSw; (try dsimp only at hSw); go_simp)⟩) (by assumption) ?_
              try simp only [Act.put, List.getElem_toArray, List.getElem_cons_zero, List.getElem_cons_succ, List.setIfInBounds_toArray, List.set_cons_zero, List.set_cons_succ]
              refine wpAnyH_take (i := 18) (v := .bool false) rfl (by kernel_rfl) (by kernel_rfl) (by kernel_rfl) (fun _ _ _ h => h) (Or.inl ⟨by rfl, (by intro w hSw; (try dsimp only at hSw); go_simp)⟩) (by assumption) ?_
              try simp only [Act.put, List.getElem_toArray, List.getElem_cons_zero, List.getElem_cons_succ, List.setIfInBounds_toArray, List.set_cons_zero, List.set_cons_succ]
              refine wpAnyH_done (by kernel_rfl) ?_ _
              clear hHeld j2
              have HE := HB2
              have HZ : Hid (∃ V a has since, Sto w4 wB.drew w4.heap.size V a has since ∧ Gt.Inv p a has since now2 ∧ ∀ k, 0 ≤ since k) := Lib.hid ⟨_, _, _, _, HE.out, HV.out.1, HV.out.2⟩
              clear HE
              go_wp2
              exact ⟨⟨i + 1, now2, by omega, by go_num, rfl, hn2.1, hn2.2, HZ⟩, by simp [intOf] <;> omega⟩
        have q2 : (kd == 2) = false := by simp [y2]
        clear y2
        by_cases y3 : kd = 3
        · as_aux_lemma =>
            subst y3
            have k0 : wc.cell? ⟨gk, 0, none⟩ = some (.int .i64 3) := HW.out.cell 0
            have k1 : wc.cell? ⟨gk, 1, none⟩ = some (.int .i64 sl) := HW.out.cell 1
            have k2 : wc.cell? ⟨gk, 2, none⟩ = some (.int .i64 nd) := HW.out.cell 2
            have k3 : wc.cell? ⟨gk, 3, none⟩ = some (.int .i64 nc) := HW.out.cell 3
            have hp := HK.out.1.on HD.out.below
            have z7 := HD.out.acc.acc.size
            go_wp2_with (first | ((with_reducible show wpList _ _ _ ((⟨some 164, Op.load 24 (.tmp 2), _, _, _, _⟩ : Oper) :: _) _ _); refine wpList_load_rowG (by rfl) _ (.tmp 2) rfl w.heap.size rfl 24 C (0, 0) _ hp.1 Try.underlying24 rfl (by rw [h11]; exact info11) ?_) | fail)
            refine (HG.out.new hp.2 now2 HN.out).mono ?_
            rintro e wA ⟨Va, rfl, ha, hb⟩
            have ha := ha.weak (S' := Sx w4.heap.size) (fun b _ h => by have h1 := HD.out.since.lt; exact ⟨by omega, by omega, by omega⟩)
            have za := ha.acc.size
            have oa := ha.acc.one
            have HA1 := Lib.hid (And.intro ha (HD.out.on hb))
            clear ha hb hp k0 k1 k2 k3
            have HZ : Hid (∃ V a has since, Sto w4 (wA.setRow w4.heap.size Va) w4.heap.size V a has since ∧ Gt.Inv p a has since now2 ∧ ∀ k, 0 ≤ since k) := Lib.hid ⟨_, _, _, _, HA1.out.2.put HA1.out.1, Gt.inv_new HP.out.1 HV.out.1, HV.out.2⟩
            go_wp2_with (first | ((with_reducible show wpList _ _ _ ((⟨_, Op.store 30 (.tmp 7) _, _, _, _, _⟩ : Oper) :: _) _ _); refine wpList_store_row rfl 30 (.tmp 7) (.tmp 166) rfl w4.heap.size Va rfl rfl 30 V HA1.out.2.one (by rw [za]; exact info_acc) (by rw [za]; exact z7) oa ?_) | fail)
            exact ⟨⟨i + 1, now2, by omega, by go_num, rfl, hn2.1, hn2.2, HZ⟩, by simp [intOf] <;> omega⟩
        have q3 : (kd == 3) = false := by simp [y3]
        clear y3
        as_aux_lemma =>
          have k0 : wc.cell? ⟨gk, 0, none⟩ = some (.int .i64 kd) := HW.out.cell 0
          have k1 : wc.cell? ⟨gk, 1, none⟩ = some (.int .i64 sl) := HW.out.cell 1
          have k2 : wc.cell? ⟨gk, 2, none⟩ = some (.int .i64 nd) := HW.out.cell 2
          have k3 : wc.cell? ⟨gk, 3, none⟩ = some (.int .i64 nc) := HW.out.cell 3
          have HE := HD
          have HZ : Hid (∃ V a has since, Sto w4 wc w4.heap.size V a has since ∧ Gt.Inv p a has since now2 ∧ ∀ k, 0 ≤ since k) := Lib.hid ⟨_, _, _, _, HE.out, HV.out.1, HV.out.2⟩
          clear HE
          go_wp2
          exact ⟨⟨i + 1, now2, by omega, by go_num, rfl, hn2.1, hn2.2, HZ⟩, by simp [intOf] <;> omega⟩
end Go.Proofs.Ytalfcaepobbdeaa
