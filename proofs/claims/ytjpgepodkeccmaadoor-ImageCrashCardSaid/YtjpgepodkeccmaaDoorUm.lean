/-
  The walk of Whole.
-/
import Derived.Test.YtjpgepodkeccmaaDoorUl
namespace Go.Proofs.YtjpgepodkeccmaaDoor
open Go.RowKit
set_option linter.unusedVariables false
set_option linter.unusedSimpArgs false
set_option maxRecDepth 20000
theorem dig_len (l : List Int) : (Sm.dig l).length = 32 := by rw [Sm.dig, Sh.bytesOf_len]; rfl
theorem byt_dig (l : List Int) : Byt (Sm.dig l) := Sh.byt_bytesOf _
theorem parts_one {w : World} {S : Nat → Prop} {g : Nat} {T : TypeId} {a : Option Addr} {n c : Nat} {l : List Int} (h : Whole w g T #[.slice a n c]) (hS : S g) (ht : Txt w S a n c l) : Sh.Parts w S (some ⟨g, 0, none⟩) 1 [l] := by
  refine ⟨rfl, Or.inr ⟨g, 0, rfl, hS, h.lt, fun k hk => ?_⟩⟩
  obtain rfl : k = 0 := by omega
  exact ⟨a, n, c, h.cell 0, ht⟩
theorem put_row {w : World} {T : TypeId} {z N : Array Value} : Whole ((w.alloc (.cells z T)).setRow w.heap.size N) w.heap.size T N := (Whole.new w T z).row N
theorem put_far {w : World} {g : Nat} {T U : TypeId} {z N cs : Array Value} (h : Whole w g U cs) : Whole ((w.alloc (.cells z T)).setRow w.heap.size N) g U cs := (h.alloc _).rowFar (by have := h.lt; omega) N
theorem put_below {B : Nat} {a w : World} {T : TypeId} {z N : Array Value} (h : Below B a w) (hB : B ≤ w.heap.size) : Below B a ((w.alloc (.cells z T)).setRow w.heap.size N) := below_row (h.alloc hB _) hB N
theorem row32 {d : List Int} (h : d.length = 32) : (nums d).toArray.size = 32 := by simp [nums_len, h]
theorem iwhole_bad {v : Value} {C : Array Value} {b : Im.Bt} {fr room : Int} {w : World} (hC : KC C b) (hf : ∀ w', Below w.heap.size w w' → Calls Tryd.prog 16 #[v, .int .i64 fr, .int .i64 room, .int .i64 b.size] w' fun e w'' => e = .returned (.tuple #[.slice none 0 0, .int .i64 1]) ∧ w' = w'') :
    Calls Tryd.prog 23 #[v, .int .i64 fr, .int .i64 room, .agg C] w fun e w' => e = .returned (.int .i64 1) ∧ Below w.heap.size w w' := by
  have hb := below_alloc w (.cells C 41)
  have HF := Lib.hid (hf _ hb)
  have H1 := Lib.hid hb
  have c2 := hC.c2 (Whole.new w 41 C)
  clear hf hb hC
  go_enter Tryd.func23, Tryd.ntmps23
  go_wp2_with (first | (go_at_call 16; refine HF.out.mono ?_; rintro e w' ⟨rfl, rfl⟩) | fail)
  go_ret
  exact ⟨rfl, H1.out⟩
theorem iwhole_nil {C : Array Value} {b : Im.Bt} {fr room : Int} {w : World} (hC : KC C b) : Calls Tryd.prog 23 #[.pointer none, .int .i64 fr, .int .i64 room, .agg C] w fun e w' => e = .returned (.int .i64 1) ∧ Below w.heap.size w w' := iwhole_bad hC fun w' _ => get_nil
theorem range_bt {w : World} {g : Nat} {C : Array Value} {b : Im.Bt} (h : Whole w g 41 C) (hC : KC C b) : w.rangeAt g 3 (nums b.whole) := by
  intro j v hv
  rw [h.cell, hC.1, List.getElem?_toArray]
  unfold bc
  rw [show 3 + j = j + 1 + 1 + 1 by omega]
  simp only [List.getElem?_cons_succ]
  exact hv
set_option maxHeartbeats 8000000 in
theorem iwhole_ok {p bb mb n fr room size : Nat} {A : Dm.A} {C : Array Value} {b : Im.Bt} {w : World} (h : Dk w p bb mb A n) (hR : Sh.Roots w) (hd : A.down = false) (hfr : fr + room ≤ n) (hsz : size ≤ 64 * room) (hC : KC C b) (hbs : b.size = (size : Int)) :
    Calls Tryd.prog 23 #[.pointer (some ⟨p, 0, none⟩), .int .i64 (fr : Int), .int .i64 (room : Int), .agg C] w fun e w' => e = .returned (.int .i64 (if Sm.dig (area (Dm.now A) fr size) = b.whole then 0 else 80)) ∧ Below w.heap.size w w' := by
  have hsm := h.ok.small
  have hwl := hC.2.1
  have hsb : size ≤ 262144 := by omega
  have hb := below_alloc w (.cells C 41)
  have hw : Whole (w.alloc (.cells C 41)) w.heap.size 41 C := Whole.new w _ _
  obtain ⟨w1, h1⟩ : ∃ w1, w.alloc (.cells C 41) = w1 := ⟨_, rfl⟩
  rw [h1] at hb hw
  have c2 := hC.c2 hw
  rw [hbs] at c2
  have hng := Dm.now_get h.ok
  have hal := area_len (size := size) (fr := fr) hng.1 (by omega)
  have hab := area_byt hng.2.1 fr size
  have HG := Lib.hid (get_ok (h.old hb) hd hfr hsz)
  obtain ⟨X, hX⟩ : ∃ X, area (Dm.now A) fr size = X := ⟨_, rfl⟩
  rw [hX] at HG hal hab ⊢
  obtain ⟨d, hdg⟩ : ∃ d, Sm.dig X = d := ⟨_, rfl⟩
  have hdd : d.length = 32 := by rw [← hdg]; exact dig_len X
  rw [hdg]
  obtain ⟨wh, hwh⟩ : ∃ wh, b.whole = wh := ⟨_, rfl⟩
  rw [hwh] at hwl ⊢
  obtain ⟨y, hy⟩ : ∃ y, decide (d = wh) = y := ⟨_, rfl⟩
  have hE : (if d = wh then (0 : Int) else 80) = if y then 0 else 80 := by
    rw [← hy]
    by_cases e : d = wh
    · rw [if_pos e, decide_eq_true e]; rfl
    · rw [if_neg e, decide_eq_false e]; rfl
  rw [hE]
  have HEQ : Hid (∀ w : World, (Op.equalIn 10000 39 (.agg (nums d).toArray) (.agg (nums wh).toArray)).run Tryd.prog w = .ok y w) := Lib.hid fun w => by
    have h := Sh.equal32 9999 (fun a b w => run_equalIn_int w 9998 5 .u8 .u8 a b Tryd.underlying5) d wh hdd hwl w
    rw [h, hy]
  clear hE hy
  have H1 := Lib.hid (And.intro hb (And.intro hw (And.intro hC (And.intro h1 (And.intro hal (And.intro hab (And.intro hdg (And.intro hwh hwl))))))))
  have HR := Lib.hid (And.intro hR hR.two)
  clear h hR hd hb hw h1 hng hX hal hab hdg hwh hC hsz hfr hwl
  go_enter Tryd.func23, Tryd.ntmps23
  go_upto_region 1 with fail
  rw [H1.out.2.2.2.1]
  go_wp2_with fail
  refine HG.out.mono ?_
  rintro e w2 ⟨g, rfl, hg, hgw, hb2⟩
  have H2 : Hid (Whole w2 g 5 (nums X).toArray ∧ Below w.heap.size w w2 ∧ Whole w2 w.heap.size 41 C) := Lib.hid ⟨hg, H1.out.1.trans (hb2.mono H1.out.1.size), H1.out.2.1.keep (hb2.block _ H1.out.2.1.lt)⟩
  clear hg hgw hb2 c2
  go_wp2_with fail
  have hwd : Whole w2.drew w.heap.size 41 C := H2.out.2.2
  have hgd : Whole w2.drew g 5 (nums X).toArray := H2.out.1
  have hbd : Below w.heap.size w w2.drew := ⟨H2.out.2.1.os, H2.out.2.1.tape, H2.out.2.1.output, H2.out.2.1.size, H2.out.2.1.block⟩
  have hr0 : w2.drew.rangeAt w.heap.size 3 (nums wh) := by have := range_bt hwd H1.out.2.2.1; rw [H1.out.2.2.2.2.2.2.2.1] at this; exact this
  obtain ⟨B, hB⟩ : ∃ B, w.heap.size = B := ⟨_, rfl⟩
  have HBd := Lib.hid hbd
  rw [hB] at hwd hr0 ⊢
  have HL32 : Hid ((nums wh).length = 32) := Lib.hid (by rw [nums_len]; exact H1.out.2.2.2.2.2.2.2.2)
  refine wp_region_held_drew (S := fun v => v.rangeAt B 3 (nums wh)) (by kernel_rfl) hr0 (fun hHeld => ?_)
  generalize w2.drew = w3 at *
  have H3 := Lib.hid (And.intro hwd hgd)
  clear hwd hgd hbd hr0
  refine wpAnyH_take (i := 0) (v := .slice (some ⟨g, 0, none⟩) size size) rfl (by kernel_rfl) (by kernel_rfl) (by kernel_rfl) (fun _ _ _ h => h) (Or.inl ⟨by rfl, (by intro w hSw; (try dsimp only at hSw); go_simp)⟩) (by assumption) ?_
  try simp only [Act.put, List.getElem_toArray, List.getElem_cons_zero, List.getElem_cons_succ, List.setIfInBounds_toArray, List.set_cons_zero, List.set_cons_succ]
  refine wpAnyH_take (i := 3) (v := .pointer (some ⟨B, 3, none⟩)) rfl (by kernel_rfl) (by kernel_rfl) (by kernel_rfl) (fun _ _ _ h => h) (Or.inl ⟨by rfl, (by intro w hSw; (try dsimp only at hSw); go_simp)⟩) (by assumption) ?_
  try simp only [Act.put, List.getElem_toArray, List.getElem_cons_zero, List.getElem_cons_succ, List.setIfInBounds_toArray, List.set_cons_zero, List.set_cons_succ]
  refine wpAnyH_take (i := 4) (v := .agg (nums wh).toArray) rfl (by kernel_rfl) (by kernel_rfl) (by kernel_rfl) (fun _ _ _ h => h) (yieldsIf_load_mid (by rfl) _ _ rfl _ _ rfl _ _ (fun w hSw => hSw) Sh.und32 rfl (by rw [HL32.out]; exact Sh.info32)) (by assumption) ?_
  try simp only [Act.put, List.getElem_toArray, List.getElem_cons_zero, List.getElem_cons_succ, List.setIfInBounds_toArray, List.set_cons_zero, List.set_cons_succ]
  refine wpAnyH_ready (rs := [1]) (by kernel_rfl) (by simp) (AllReadyH.cons rfl (fun K hK => ?_) AllReadyH.nil)
  try simp only [List.getElem_toArray, List.getElem_cons_zero, List.getElem_cons_succ]
  go_simp
  have k4 := Whole.new w3 26 #[.slice (some ⟨g, 0, none⟩) size size]
  have hw4 := H3.out.1.alloc (.cells #[.slice (some ⟨g, 0, none⟩) size size] 26)
  have hg4 := H3.out.2.alloc (.cells #[.slice (some ⟨g, 0, none⟩) size size] 26)
  have hb4 : Below w.heap.size w (w3.alloc (.cells #[.slice (some ⟨g, 0, none⟩) size size] 26)) := HBd.out.alloc HBd.out.size _
  have hr4 : (w3.alloc (.cells #[.slice (some ⟨g, 0, none⟩) size size] 26)).rangeAt B 3 (nums wh) := by have := range_bt hw4 H1.out.2.2.1; rw [H1.out.2.2.2.2.2.2.2.1] at this; exact this
  refine hK.out _ _ hr4 (fun hHeld => ?_)
  clear hK K
  try simp only [Act.put, List.getElem_toArray, List.getElem_cons_zero, List.getElem_cons_succ, List.setIfInBounds_toArray, List.set_cons_zero, List.set_cons_succ]
  generalize w3.alloc (.cells #[.slice (some ⟨g, 0, none⟩) size size] 26) = w4 at *
  generalize w3.heap.size = G at *
  have htx : Txt w4 (fun _ => True) (some ⟨g, 0, none⟩) size size X := by
    have := txt_part (fun _ => True) trivial hg4 H1.out.2.2.2.2.2.1 0 size size (by rw [H1.out.2.2.2.2.1]; omega) (Nat.le_refl _)
    rw [List.drop_zero, List.take_of_length_le (by rw [H1.out.2.2.2.2.1]; omega)] at this
    exact this
  have hpa := parts_one (S := fun _ => True) k4 trivial htx
  have H4 := Lib.hid (And.intro hw4 (And.intro hb4 hpa))
  clear k4 hw4 hg4 hb4 hr4 htx hpa
  refine wpAnyH_ready (rs := [2]) (by kernel_rfl) (by simp) (AllReadyH.cons rfl (fun K hK => ?_) AllReadyH.nil)
  try simp only [List.getElem_toArray, List.getElem_cons_zero, List.getElem_cons_succ]
  go_simp
  go_at_call 24
  refine (Sh.sum_any H4.out.2.2 (HR.out.1.below H4.out.2.1 HR.out.2) (by have := H1.out.2.2.2.2.1; simp; omega) (by omega)).mono ?_
  rintro e w5 ⟨rfl, hb5⟩
  rw [show [X].flatten = X by simp, H1.out.2.2.2.2.2.2.1]
  have hw5 := H4.out.1.keep (hb5.block _ H4.out.1.lt)
  have hr5 : w5.rangeAt B 3 (nums wh) := by have := range_bt hw5 H1.out.2.2.1; rw [H1.out.2.2.2.2.2.2.2.1] at this; exact this
  have H5 := Lib.hid (H4.out.2.1.trans (hb5.mono H4.out.2.1.size))
  clear hw5 hb5
  go_wp2_with fail
  refine hK.out _ _ hr5 (fun hHeld => ?_)
  clear hK K hr5
  try simp only [Act.put, List.getElem_toArray, List.getElem_cons_zero, List.getElem_cons_succ, List.setIfInBounds_toArray, List.set_cons_zero, List.set_cons_succ]
  have heq := HEQ.out
  refine wpAnyH_ready (rs := [5]) (by kernel_rfl) (by simp) (AllReadyH.cons rfl (fun K hK => ?_) AllReadyH.nil)
  try simp only [List.getElem_toArray, List.getElem_cons_zero, List.getElem_cons_succ]
  go_simp
  refine hK.out _ _ hHeld (fun hHeld => ?_)
  clear hK K heq
  try simp only [Act.put, List.getElem_toArray, List.getElem_cons_zero, List.getElem_cons_succ, List.setIfInBounds_toArray, List.set_cons_zero, List.set_cons_succ]
  refine wpAnyH_done (by kernel_rfl) ?_ _
  clear hHeld
  cases y with
  | true =>
    go_wp2
    go_ret
    exact ⟨rfl, by rw [← hB]; exact H5.out⟩
  | false =>
    go_wp2
    go_ret
    exact ⟨rfl, by rw [← hB]; exact H5.out⟩
end Go.Proofs.YtjpgepodkeccmaaDoor
