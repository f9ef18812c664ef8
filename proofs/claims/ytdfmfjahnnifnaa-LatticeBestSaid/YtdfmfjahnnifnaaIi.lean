/-
  The walk of the document's Same of facts; Encode, and the document's Encode.
-/
import Derived.Test.YtdfmfjahnnifnaaIf
import Derived.Test.YtdfmfjahnnifnaaIg
namespace Go.Proofs.Ytdfmfjahnnifnaa
set_option maxRecDepth 20000
set_option linter.unusedSimpArgs false
set_option linter.unusedVariables false
open Go.RowKit
/-- What Same answers. -/
def SameF (w : World) (f g : Ft.Fact) (e : Ending) (w' : World) : Prop := ∃ b : Bool, e = .returned (.bool b) ∧ (b = true ↔ f = g) ∧ Below w.heap.size w w'
theorem samef_no {w : World} {f g : Ft.Fact} {w' : World} (h : f ≠ g) (hb : Below w.heap.size w w') : SameF w f g (.returned (.bool false)) w' :=
  ⟨false, rfl, ⟨(fun e => by cases e), fun e => absurd e h⟩, hb⟩
theorem samef_yes {w : World} {f g : Ft.Fact} {w' : World} (h : f = g) (hb : Below w.heap.size w w') : SameF w f g (.returned (.bool true)) w' :=
  ⟨true, rfl, ⟨fun _ => h, fun _ => rfl⟩, hb⟩
set_option maxHeartbeats 2000000 in
theorem rfsame_any {w : World} {S S' : Nat → Prop} {v v' : Value} {f g : Ft.Fact} (h : Fv w S v f) (h' : Fv w S' v' g) (hn : f.man.ds.length ≤ 1000 ∨ g.man.ds.length ≤ 1000) :
    Calls Try.prog 43 #[v, v'] w (SameF w f g) := by
  obtain ⟨ka, ea, na, ma⟩ := f
  obtain ⟨kb, eb, nb, mb⟩ := g
  dsimp only at hn
  obtain ⟨P, M, P', M', rfl, rfl, hb, hb'⟩ := fv_two h h'
  clear h h'
  have HF := Lib.hid hb
  have HG := Lib.hid hb'
  have HB := Lib.hid (below_two w (.cells P 30) (.cells P' 30))
  have HL := Lib.hid hn
  clear hb hb' hn
  go_enter Try.func43, Try.ntmps43
  go_wp2_with (first | ((with_reducible show wpList _ _ _ ((⟨_, Op.load 28 (.tmp 6), _, _, _, _⟩ : Oper) :: _) _ _); refine fb_man HF.out (by rfl) (.tmp 6) rfl rfl ?_) | ((with_reducible show wpList _ _ _ ((⟨_, Op.load 28 (.tmp 8), _, _, _, _⟩ : Oper) :: _) _ _); refine fb_man HG.out (by rfl) (.tmp 8) rfl rfl ?_) | fail)
  generalize (w.alloc (.cells P 30)).alloc (.cells P' 30) = w2 at *
  refine (rsame_any HF.out.mv HG.out.mv HL.out).mono ?_
  rintro e w3 ⟨b, rfl, hbi, hb3⟩
  have h1 := HF.out.below hb3
  have h2 := HG.out.below hb3
  have HB3 := Lib.hid (HB.out.trans (hb3.mono HB.out.size))
  have a0 : w3.cell? ⟨w.heap.size, 0, none⟩ = some (.int .i64 ka) := h1.c0
  have a1 : w3.cell? ⟨w.heap.size, 1, none⟩ = some (.int .i64 ea) := h1.c1
  have a2 : w3.cell? ⟨w.heap.size, 2, none⟩ = some (.int .i64 na) := h1.c2
  have b0 : w3.cell? ⟨w.heap.size + 1, 0, none⟩ = some (.int .i64 kb) := h2.c0
  have b1 : w3.cell? ⟨w.heap.size + 1, 1, none⟩ = some (.int .i64 eb) := h2.c1
  have b2 : w3.cell? ⟨w.heap.size + 1, 2, none⟩ = some (.int .i64 nb) := h2.c2
  clear hb3 h1 h2 HF HG HB
  cases b with
  | false =>
    have HN : Hid (Ft.Fact.mk ka ea na ma ≠ Ft.Fact.mk kb eb nb mb) := Lib.hid (fun e => by injection e with _ _ _ e; have := hbi.2 e; cases this)
    clear hbi
    go_wp2
    go_ret
    exact samef_no HN.out HB3.out
  | true =>
    have hm : ma = mb := hbi.1 rfl
    subst hm
    clear hbi
    by_cases z0 : ka = kb
    case neg =>
      have d0 : (ka == kb) = false := by simp [z0]
      have HN : Hid (Ft.Fact.mk ka ea na ma ≠ Ft.Fact.mk kb eb nb ma) := Lib.hid (fun e => by injection e with e; exact z0 e)
      clear z0
      go_wp2
      go_ret
      exact samef_no HN.out HB3.out
    subst z0
    by_cases z1 : ea = eb
    case neg =>
      have d0 : (ea == eb) = false := by simp [z1]
      have HN : Hid (Ft.Fact.mk ka ea na ma ≠ Ft.Fact.mk ka eb nb ma) := Lib.hid (fun e => by injection e with _ e; exact z1 e)
      clear z1
      go_wp2
      go_ret
      exact samef_no HN.out HB3.out
    subst z1
    by_cases z2 : na = nb
    case neg =>
      have d0 : (na == nb) = false := by simp [z2]
      have HN : Hid (Ft.Fact.mk ka ea na ma ≠ Ft.Fact.mk ka ea nb ma) := Lib.hid (fun e => by injection e with _ _ e; exact z2 e)
      clear z2
      go_wp2
      go_ret
      exact samef_no HN.out HB3.out
    subst z2
    go_wp2
    go_ret
    exact samef_yes rfl HB3.out
end Go.Proofs.Ytdfmfjahnnifnaa
