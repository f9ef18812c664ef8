/-
  The walk of the document's Same of facts; Encode, and the document's Encode.
-/
import Derived.Test.YtcfchkffanfehaaIf
import Derived.Test.YtcfchkffanfehaaIg
import Derived.Test.YtcfchkffanfehaaIh
namespace Go.Proofs.Ytcfchkffanfehaa
set_option maxRecDepth 20000
set_option linter.unusedSimpArgs false
set_option linter.unusedVariables false
open Go.RowKit
/-- What Same answers. -/
def SameF (w : World) (f g : Ft.Fact) (e : Ending) (w' : World) : Prop := ∃ b : Bool, e = .returned (.bool b) ∧ (b = true ↔ f = g) ∧ Below w.heap.size w w'
theorem samef_no {w : World} {f g : Ft.Fact} {w' : World} (h : f ≠ g) (hb : Below w.heap.size w w') : SameF w f g (.returned (.bool false)) w' :=
  ⟨false, rfl, ⟨(fun e => by cases e), fun e => absurd e h⟩, hb⟩
theorem samef_yes {w : World} {f g : Ft.Fact} {w' : World} (h : f = g) (hb : Below w.heap.size w w') : SameF w f g (.returned (.bool true)) w' :=
  ⟨true, rfl, ⟨fun _ => h, fun _ => rfl⟩, hb⟩
set_option maxHeartbeats 2000000 in
theorem rfsame_any {w : World} {S S' : Nat → Prop} {v v' : Value} {f g : Ft.Fact} (h : Fv w S v f) (h' : Fv w S' v' g) (hn : f.man.ds.length ≤ 1000 ∨ g.man.ds.length ≤ 1000) :
    Calls Try.prog 25 #[v, v'] w (SameF w f g) := by
  obtain ⟨ka, ea, na, ma⟩ := f
  obtain ⟨kb, eb, nb, mb⟩ := g
  dsimp only at hn
  obtain ⟨P, M, P', M', rfl, rfl, hb, hb'⟩ := fv_two h h'
  clear h h'
  have HF := Lib.hid hb
  have HG := Lib.hid hb'
  have HB := Lib.hid (below_two w (.cells P 28) (.cells P' 28))
  have HL := Lib.hid hn
  clear hb hb' hn
  go_enter Try.func25, Try.ntmps25
  go_wp2_with (first | ((with_reducible show wpList _ _ _ ((⟨_, Op.load 26 (.tmp 6), _, _, _, _⟩ : Oper) :: _) _ _); refine fb_man HF.out (by rfl) (.tmp 6) rfl rfl ?_) | ((with_reducible show wpList _ _ _ ((⟨_, Op.load 26 (.tmp 8), _, _, _, _⟩ : Oper) :: _) _ _); refine fb_man HG.out (by rfl) (.tmp 8) rfl rfl ?_) | fail)
  generalize (w.alloc (.cells P 28)).alloc (.cells P' 28) = w2 at *
  refine (rsame_any HF.out.mv HG.out.mv HL.out).mono ?_
  rintro e w3 ⟨b, rfl, hbi, hb3⟩
  have h1 := HF.out.below hb3
  have h2 := HG.out.below hb3
  have HB3 := Lib.hid (HB.out.trans (hb3.mono HB.out.size))
  have a0 : w3.cell? ⟨w.heap.size, 0, none⟩ = some (.int .i64 ka) := h1.c0
  have a1 : w3.cell? ⟨w.heap.size, 1, none⟩ = some (.int .i64 ea) := h1.c1
  have a2 : w3.cell? ⟨w.heap.size, 2, none⟩ = some (.int .i64 na) := h1.c2
  have b0 : w3.cell? ⟨w.heap.size + 1, 0, none⟩ = some (.int .i64 kb) := h2.c0
  have b1 : w3.cell? ⟨w.heap.size + 1, 1, none⟩ = some (.int .i64 eb) := h2.c1
  have b2 : w3.cell? ⟨w.heap.size + 1, 2, none⟩ = some (.int .i64 nb) := h2.c2
  clear hb3 h1 h2 HF HG HB
  cases b with
  | false =>
    have HN : Hid (Ft.Fact.mk ka ea na ma ≠ Ft.Fact.mk kb eb nb mb) := Lib.hid (fun e => by injection e with _ _ _ e; have := hbi.2 e; cases this)
    clear hbi
    go_wp2
    go_ret
    exact samef_no HN.out HB3.out
  | true =>
    have hm : ma = mb := hbi.1 rfl
    subst hm
    clear hbi
    by_cases z0 : ka = kb
    case neg =>
      have d0 : (ka == kb) = false := by simp [z0]
      have HN : Hid (Ft.Fact.mk ka ea na ma ≠ Ft.Fact.mk kb eb nb ma) := Lib.hid (fun e => by injection e with e; exact z0 e)
      clear z0
      go_wp2
      go_ret
      exact samef_no HN.out HB3.out
    subst z0
    by_cases z1 : ea = eb
    case neg =>
      have d0 : (ea == eb) = false := by simp [z1]
      have HN : Hid (Ft.Fact.mk ka ea na ma ≠ Ft.Fact.mk ka eb nb ma) := Lib.hid (fun e => by injection e with _ e; exact z1 e)
      clear z1
      go_wp2
      go_ret
      exact samef_no HN.out HB3.out
    subst z1
    by_cases z2 : na = nb
    case neg =>
      have d0 : (na == nb) = false := by simp [z2]
      have HN : Hid (Ft.Fact.mk ka ea na ma ≠ Ft.Fact.mk ka ea nb ma) := Lib.hid (fun e => by injection e with _ _ e; exact z2 e)
      clear z2
      go_wp2
      go_ret
      exact samef_no HN.out HB3.out
    subst z2
    go_wp2
    go_ret
    exact samef_yes rfl HB3.out
/-- What Encode answers. -/
def Fenc (w : World) (f : Ft.Fact) (e : Ending) (w' : World) : Prop :=
  ((¬ f.ok 9 ∧ e = .returned (.tuple #[.slice none 0 0, .int .i64 100])) ∨
    (f.ok 9 ∧ ∃ a n c, e = .returned (.tuple #[.slice a n c, .int .i64 0]) ∧ Txt w' (w.heap.size ≤ ·) a n c f.bytes)) ∧ Below w.heap.size w w'
set_option maxHeartbeats 4000000 in
theorem fencode_any {w : World} {S : Nat → Prop} {v : Value} {f : Ft.Fact} (h : Fv w S v f) :
    Calls Try.prog 13 #[v] w (Fenc w f) := by
  obtain ⟨k, ep, n, m⟩ := f
  have HWF := Lib.hid h.wf
  obtain ⟨P, M, rfl, hb⟩ := fv_box h
  clear h
  have HF := Lib.hid hb
  have HB := Lib.hid (below_alloc w (.cells P 28))
  clear hb
  by_cases hok : Ft.Fact.ok ⟨k, ep, n, m⟩ 9
  case neg =>
    have HK := Lib.hid (Ft.chk_no hok)
    have HN := Lib.hid hok
    clear hok
    go_enter Try.func13, Try.ntmps13
    go_wp2_with (first | ((with_reducible show wpList _ _ _ ((⟨_, Op.load 28 (.tmp 1), _, _, _, _⟩ : Oper) :: _) _ _); refine fb_load HF.out (by rfl) (.tmp 1) rfl rfl ?_) | fail)
    refine (fcheck_any HF.out.val 9).mono ?_
    rintro e w2 ⟨rfl, hb2⟩
    rw [HK.out]
    have HB2 := Lib.hid (below_box hb2)
    clear hb2
    go_wp2
    go_ret2
    exact ⟨Or.inl ⟨HN.out, rfl⟩, HB2.out⟩
  have HK := Lib.hid (Ft.chk_ok hok)
  obtain ⟨i1, i2, i3, i4, i5, i6⟩ := Ft.ok_in hok
  dsimp only at i1 i2 i3 i4 i5 i6
  have HN := Lib.hid hok
  clear hok
  obtain ⟨L1, hL1⟩ : ∃ L, (Cd.num k).length = L := ⟨_, rfl⟩
  have hl1 : (Cd.num k).length ≤ 10 := Cd.num_len (by omega) (by omega)
  have hl2 : (Cd.num ep).length ≤ 10 := Cd.num_len (by omega) (by omega)
  have hl3 : (Cd.num n).length ≤ 10 := Cd.num_len (by omega) (by omega)
  have HL := Lib.hid (And.intro hl1 (And.intro hl2 hl3))
  clear hl1 hl2 hl3 hL1
  go_enter Try.func13, Try.ntmps13
  go_wp2_with (first | ((with_reducible show wpList _ _ _ ((⟨_, Op.load 28 (.tmp 1), _, _, _, _⟩ : Oper) :: _) _ _); refine fb_load HF.out (by rfl) (.tmp 1) rfl rfl ?_) | fail)
  refine (fcheck_any HF.out.val 9).mono ?_
  rintro e w1 ⟨rfl, hb2⟩
  rw [HK.out]
  have HB1 := Lib.hid (below_box hb2)
  have HF1 := Lib.hid (HF.out.below hb2)
  have k0 : w1.cell? ⟨w.heap.size, 0, none⟩ = some (.int .i64 k) := HF1.out.c0
  have hlt1 := HF1.out.lt
  clear hb2 HF HB
  go_wp2_with fail
  have hw2 : Co.Wr (w1.alloc (Obj.cells #[Value.pointer none, Value.int IntKind.i64 0] 51)) w1.heap.size w1.heap.size [] := ⟨Nat.le_refl _, Or.inl ⟨rfl, Whole.new _ _ _⟩⟩
  refine (Co.int_any k (by rw [size_alloc]; omega) hw2 (by simp) (by omega) (by omega)).mono ?_
  rintro e w3 ⟨rfl, hw3, hb3⟩
  have HW3 := Lib.hid hw3
  have HB13 := Lib.hid (show Below w1.heap.size w1 w3 from (below_alloc w1 _).trans hb3)
  have k1 : w3.cell? ⟨w.heap.size, 1, none⟩ = some (.int .i64 ep) := (HF1.out.below HB13.out).c1
  have hlt3 : w1.heap.size ≤ w3.heap.size := HB13.out.size
  clear hw2 hw3 hb3 k0
  go_wp2_with fail
  refine (Co.int_any ep hlt3 HW3.out (by have := HL.out; simp; omega) (by omega) (by omega)).mono ?_
  rintro e w4 ⟨rfl, hw4, hb4⟩
  have HW4 := Lib.hid hw4
  have HB14 := Lib.hid (show Below w1.heap.size w1 w4 from HB13.out.trans hb4)
  have k2 : w4.cell? ⟨w.heap.size, 2, none⟩ = some (.int .i64 n) := (HF1.out.below HB14.out).c2
  have hlt4 : w1.heap.size ≤ w4.heap.size := HB14.out.size
  clear hw4 hb4 k1 HW3 HB13 hlt3
  go_wp2_with fail
  refine (Co.int_any n hlt4 HW4.out (by have := HL.out; simp; omega) (by omega) (by omega)).mono ?_
  rintro e w5 ⟨rfl, hw5, hb5⟩
  have HW5 := Lib.hid hw5
  have HB15 := Lib.hid (show Below w1.heap.size w1 w5 from HB14.out.trans hb5)
  have HF5 := Lib.hid (HF1.out.below HB15.out)
  have k0 : w5.cell? ⟨w.heap.size, 0, none⟩ = some (.int .i64 k) := HF5.out.c0
  have hlt5 : w1.heap.size ≤ w5.heap.size := HB15.out.size
  clear hw5 hb5 k2 HW4 HB14 hlt4
  have HBB := Lib.hid (show Below w.heap.size w w5 from HB1.out.trans (HB15.out.mono HB1.out.size))
  have HBY := Lib.hid (And.intro (Ft.bytes_byt HWF.out) (Ft.bytes_le HWF.out HN.out))
  by_cases hk : k = 1
  · have d1 : (k == 1) = true := by simp [hk]
    have HBD := Lib.hid (Ft.ok_one HN.out hk)
    have HE : Hid (Ft.Fact.bytes ⟨k, ep, n, m⟩ = [] ++ Cd.num k ++ Cd.num ep ++ Cd.num n ++ (Cd.num ((Mf.body m).length : Nat) ++ Mf.body m)) := Lib.hid (by
      unfold Ft.Fact.bytes Ft.Fact.tail
      dsimp only
      rw [if_pos hk]
      simp only [List.nil_append, List.append_assoc])
    have HLB := Lib.hid (Ft.body_le HBD.out HWF.out.1 HWF.out.2)
    clear hk
    go_wp2_with (first | ((with_reducible show wpList _ _ _ ((⟨_, Op.load 26 (.tmp 31), _, _, _, _⟩ : Oper) :: _) _ _); refine fb_man HF5.out (by rfl) (.tmp 31) rfl rfl ?_) | fail)
    refine (encode_any HF5.out.mv).mono ?_
    rintro e w6 ⟨he, hb6⟩
    rcases he with ⟨hbad, _⟩ | ⟨_, a6, n6, c6, rfl, ht6⟩
    · exact absurd hbad HBD.out
    have hW6 := HW5.out.below hb6
    have hA6 := (Co.Away.of_size HW5.out).below HW5.out hb6
    have HT6 := Lib.hid (ht6.weak (S' := fun b => w5.heap.size ≤ b ∧ b < w6.heap.size) (fun b hb hS => ⟨hS, hb⟩))
    have HA6 := Lib.hid (hA6.mono (K' := fun b => w5.heap.size ≤ b ∧ b < w6.heap.size) (fun b h => h.1))
    have HW6 := Lib.hid hW6
    have HBB6 := Lib.hid (HBB.out.trans (hb6.mono HBB.out.size))
    have hlt6 : w1.heap.size ≤ w6.heap.size := Nat.le_trans hlt5 hb6.size
    have hn6 : n6 ≤ 2100 := by rw [← ht6.1]; exact HLB.out
    clear hW6 hA6 ht6 hb6 HW5 HF5
    go_wp2_with fail
    refine (Co.text_anyK hlt6 HW6.out HT6.out HA6.out (fun b h => h.2) (by have := HL.out; simp; omega) (by omega)).mono ?_
    rintro e w7 ⟨rfl, hw7, hb7⟩
    rw [← HE.out] at hw7
    have HW7 := Lib.hid hw7
    have HBB7 := Lib.hid (HBB6.out.trans (hb7.mono HB1.out.size))
    clear hw7 hb7 HW6 HT6 HA6
    go_wp2_with fail
    refine (Co.bytes_any HW7.out HBY.out.1 (by have := HBY.out.2; omega)).mono ?_
    rintro e w8 ⟨v8, rfl, hown, hb8⟩
    obtain ⟨a8, c8, rfl, ht8⟩ := Txt.own hown HBY.out.1
    have H8 := Lib.hid (And.intro (ht8.weak (S' := (w.heap.size ≤ ·)) (fun b _ h => Nat.le_trans HBB7.out.size h)) (HBB7.out.trans (hb8.mono HBB7.out.size)))
    clear hown hb8 ht8
    go_wp2
    go_ret2
    exact ⟨Or.inr ⟨HN.out, _, _, _, rfl, H8.out.1⟩, H8.out.2⟩
  · have d1 : (k == 1) = false := by simp [hk]
    have HE : Hid (Ft.Fact.bytes ⟨k, ep, n, m⟩ = [] ++ Cd.num k ++ Cd.num ep ++ Cd.num n) := Lib.hid (by
      unfold Ft.Fact.bytes Ft.Fact.tail
      dsimp only
      rw [if_neg hk]
      simp only [List.nil_append, List.append_assoc, List.append_nil])
    have hw7 := HW5.out
    rw [← HE.out] at hw7
    have HW7 := Lib.hid hw7
    clear hk hw7
    go_wp2_with fail
    refine (Co.bytes_any HW7.out HBY.out.1 (by have := HBY.out.2; omega)).mono ?_
    rintro e w8 ⟨v8, rfl, hown, hb8⟩
    obtain ⟨a8, c8, rfl, ht8⟩ := Txt.own hown HBY.out.1
    have H8 := Lib.hid (And.intro (ht8.weak (S' := (w.heap.size ≤ ·)) (fun b _ h => Nat.le_trans HBB.out.size h)) (HBB.out.trans (hb8.mono HBB.out.size)))
    clear hown hb8 ht8
    go_wp2
    go_ret2
    exact ⟨Or.inr ⟨HN.out, _, _, _, rfl, H8.out.1⟩, H8.out.2⟩
end Go.Proofs.Ytcfchkffanfehaa
