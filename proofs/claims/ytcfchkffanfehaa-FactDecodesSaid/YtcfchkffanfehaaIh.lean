/-
  The Writer once more: what it leaves as it was beside its own blocks; texts of the call's own that it writes.
-/
import Derived.Test.YtcfchkffanfehaaZq
namespace Go.Proofs.Ytcfchkffanfehaa.Co
set_option maxRecDepth 20000
set_option linter.unusedSimpArgs false
set_option linter.unusedVariables false
open Go.RowKit
/-- The writer's blocks lie outside K. -/
def Away (w : World) (K : Nat → Prop) (g : Nat) : Prop :=
  ¬ K g ∧ ∀ h, w.cell? ⟨g, 0, none⟩ = some (.pointer (some ⟨h, 0, none⟩)) → ¬ K h ∧ ∀ v, w.cell? ⟨h, 0, none⟩ = some v → ∀ b, v.ownBlock = some b → ¬ K b
/-- Blocks of K are as they were. -/
def Kept (K : Nat → Prop) (w w' : World) : Prop := ∀ b, b < w.heap.size → K b → w'.heap[b]? = w.heap[b]?
theorem Away.mono {w : World} {K K' : Nat → Prop} {g : Nat} (h : Away w K g) (hk : ∀ b, K' b → K b) : Away w K' g :=
  ⟨fun e => h.1 (hk _ e), fun x e => ⟨fun k => (h.2 x e).1 (hk _ k), fun v hv b hb k => (h.2 x e).2 v hv b hb (hk _ k)⟩⟩
theorem Away.below {w w' : World} {K : Nat → Prop} {B g : Nat} {l : List Int} (h : Away w K g) (hw : Wr w B g l) (hb : Below w.heap.size w w') : Away w' K g := by
  refine ⟨h.1, fun x e => ?_⟩
  have hg := hw.lt
  rw [hb.cell (p := ⟨g, 0, none⟩) hg] at e
  refine ⟨(h.2 x e).1, fun v hv => ?_⟩
  rcases hw.2 with ⟨_, h0⟩ | ⟨y, u, _, h0, h1, _⟩
  · rw [h0.cell 0] at e; cases e
  · have hy : y = x := by
      rw [h0.cell 0] at e
      simp only [List.getElem?_toArray, List.getElem?_cons_zero, Option.some.injEq, Value.pointer.injEq] at e
      exact congrArg Addr.block e
    subst hy
    rw [hb.cell (p := ⟨y, 0, none⟩) h1.lt] at hv
    exact (h.2 y e).2 v hv
/-- All the writer's blocks are there. -/
theorem Away.of_size {w : World} {B g : Nat} {l : List Int} (hw : Wr w B g l) : Away w (fun b => w.heap.size ≤ b) g := by
  refine ⟨fun e => by have := hw.lt; omega, fun x e => ?_⟩
  rcases hw.2 with ⟨_, h0⟩ | ⟨y, u, _, h0, h1, h2⟩
  · rw [h0.cell 0] at e; cases e
  · have hy : y = x := by
      rw [h0.cell 0] at e
      simp only [List.getElem?_toArray, List.getElem?_cons_zero, Option.some.injEq, Value.pointer.injEq] at e
      exact congrArg Addr.block e
    subst hy
    refine ⟨fun e => by have := h1.lt; omega, fun v hv b hb e => ?_⟩
    rw [h1.cell 0] at hv
    simp only [List.getElem?_toArray, List.getElem?_cons_zero, Option.some.injEq] at hv
    subst hv
    have := (h2.lt b hb).2
    omega
theorem add_endK {w w1 : World} {K : Nat → Prop} {B g h m n : Nat} {old v' : Value} {l t : List Int} (hg : B ≤ g) (hh : B ≤ h) (hl : l.length = m) (ht : t.length = n)
    (hw : Whole w1 g 51 #[.pointer (some ⟨h, 0, none⟩), .int .i64 m]) (hp : Whole w1 h 78 #[old]) (hown : w1.ownsRow B 5 1 v' (m + n) (nums l ++ nums t)) (hb : Below B w w1)
    (hKg : ¬ K g) (hKh : ¬ K h) (hKv : ∀ b, v'.ownBlock = some b → ¬ K b) (hk : Kept K w w1) :
    Wr ((w1.setCell ⟨h, 0, none⟩ v').setCell ⟨g, 1, none⟩ (.int .i64 ((m : Int) + (n : Int)))) B g (l ++ t) ∧ Below B w ((w1.setCell ⟨h, 0, none⟩ v').setCell ⟨g, 1, none⟩ (.int .i64 ((m : Int) + (n : Int)))) ∧
      Kept K w ((w1.setCell ⟨h, 0, none⟩ v').setCell ⟨g, 1, none⟩ (.int .i64 ((m : Int) + (n : Int)))) ∧ Away ((w1.setCell ⟨h, 0, none⟩ v').setCell ⟨g, 1, none⟩ (.int .i64 ((m : Int) + (n : Int)))) K g := by
  have hgh : g ≠ h := hw.ne hp (by decide)
  have h1 := add_end hg hh hl ht hw hp hown hb
  have w1' := (hw.far (p := ⟨h, 0, none⟩) hgh v').set 1 (.int .i64 ((m : Int) + (n : Int)))
  have p1 := (hp.set 0 v').far (p := ⟨g, 1, none⟩) (Ne.symm hgh) (.int .i64 ((m : Int) + (n : Int)))
  refine ⟨h1.1, h1.2, fun b hlt hK => ?_, hKg, fun x e => ?_⟩
  · rw [Below.heap_setCell _ ⟨g, 1, none⟩ _ _ (fun e => hKg (by rw [← (show b = g from e)]; exact hK)), Below.heap_setCell _ ⟨h, 0, none⟩ _ _ (fun e => hKh (by rw [← (show b = h from e)]; exact hK))]
    exact hk b hlt hK
  · have hx : h = x := by
      rw [w1'.cell 0] at e
      simp at e
      exact e
    subst hx
    refine ⟨hKh, fun v hv b hb => ?_⟩
    rw [p1.cell 0] at hv
    simp at hv
    subst hv
    exact hKv b hb
theorem add_end0K {w w1 : World} {K : Nat → Prop} {B g h n : Nat} {old v' : Value} {t : List Int} (hg : B ≤ g) (hh : B ≤ h) (ht : t.length = n)
    (hw : Whole w1 g 51 #[.pointer (some ⟨h, 0, none⟩), .int .i64 0]) (hp : Whole w1 h 78 #[old]) (hown : w1.ownsRow B 5 1 v' n (nums t)) (hb : Below B w w1)
    (hKg : ¬ K g) (hKh : ¬ K h) (hKv : ∀ b, v'.ownBlock = some b → ¬ K b) (hk : Kept K w w1) :
    Wr ((w1.setCell ⟨h, 0, none⟩ v').setCell ⟨g, 1, none⟩ (.int .i64 (n : Int))) B g t ∧ Below B w ((w1.setCell ⟨h, 0, none⟩ v').setCell ⟨g, 1, none⟩ (.int .i64 (n : Int))) ∧
      Kept K w ((w1.setCell ⟨h, 0, none⟩ v').setCell ⟨g, 1, none⟩ (.int .i64 (n : Int))) ∧ Away ((w1.setCell ⟨h, 0, none⟩ v').setCell ⟨g, 1, none⟩ (.int .i64 (n : Int))) K g := by
  have h := add_endK (l := []) (t := t) (m := 0) (n := n) (v' := v') (K := K) hg hh rfl ht hw hp (by rw [Nat.zero_add]; exact hown) hb hKg hKh hKv hk
  rw [List.nil_append, show ((0 : Nat) : Int) + (n : Int) = (n : Int) by omega] at h
  exact h
set_option maxHeartbeats 1000000 in
theorem add_someK (K : Nat → Prop) (B g h : Nat) (v : Value) (l t : List Int) (S : Nat → Prop) (a : Option Addr) (n c : Nat) (w : World) (hB : B ≤ w.heap.size) (hg : B ≤ g) (hh : B ≤ h)
    (hw : Whole w g 51 #[.pointer (some ⟨h, 0, none⟩), .int .i64 l.length]) (hp : Whole w h 78 #[v]) (hown : w.ownsRow B 5 1 v l.length (nums l))
    (ht : Txt w S a n c t) (hl : l.length ≤ 1099511627776) (hn : n ≤ 1099511627776) (hKg : ¬ K g) (hKh : ¬ K h) (hKv : ∀ b, v.ownBlock = some b → ¬ K b) (hKs : ∀ b, K b → b < w.heap.size) :
    Calls Try.prog 45 #[.pointer (some ⟨g, 0, none⟩), .slice a n c] w fun e w' => e = .returned (.tuple #[]) ∧ Wr w' B g (l ++ t) ∧ Below B w w' ∧ Kept K w w' ∧ Away w' K g := by
  obtain ⟨i0, hi0, hz0, hz1, hz2⟩ := info_parts u8_info
  have HI := Lib.hid (And.intro hi0 (And.intro hz0 (And.intro hz1 hz2)))
  clear hi0 hz0 hz1 hz2
  have hgh : g ≠ h := hw.ne hp (by decide)
  have hvg := own_ne hown hw (by decide)
  have hvh := own_ne hown hp (by decide)
  obtain ⟨q, cap, rfl⟩ : ∃ q cap, v = .slice q l.length cap := by
    rcases hown.2 with ⟨rfl, h0⟩ | ⟨g', cap, _, rfl, _⟩
    · exact ⟨_, _, by rw [h0]⟩
    · exact ⟨_, _, rfl⟩
  have c0 := hw.cell 0
  have c1 := hw.cell 1
  have c2 := hp.cell 0
  have f1 := hw.frozen 1
  have f2 := hp.frozen 0
  simp only [List.getElem?_toArray, List.getElem?_cons_zero, List.getElem?_cons_succ] at c0 c1 c2
  have HK := Lib.hid (And.intro hKg (And.intro hKh (And.intro hKv hKs)))
  clear hKg hKh hKv hKs
  have HW := Lib.hid hw
  have HP := Lib.hid hp
  have HO := Lib.hid hown
  have HT := Lib.hid ht
  obtain ⟨m, hm⟩ : ∃ m, l.length = m := ⟨_, rfl⟩
  rw [hm] at c1 c2 hl hvg hvh HO HP HW HK
  have HM := Lib.hid hm
  clear hw hp hown ht hm
  have hgt : decide ((m : Int) < (m : Int)) = false := by simp
  go_enter Try.func45, Try.ntmps45
  go_wp2
  go_quiet (fail)
  go_wp2
  go_region_law
    ((refine step_append_txt _ (by rfl) _ _ _ (by rfl) B 5 i0 (.int .u8 0) 1 Try.underlying30 HI.out.1 HI.out.2.1 HI.out.2.2.1 HI.out.2.2.2 rfl (.slice q m cap) m (nums l) (by rfl) (by exact HO.out) S a n c t (by rfl) (by exact HT.out) (by unfold maxLen; omega) (by omega) (by exact hB) ?_
      intro v' w1 hown1 hgrow hor
      have HOR := Lib.hid hor
      clear hor
      obtain ⟨q', cap', rfl⟩ := own_form hown1
      have k0 := Whole.grown (by exact HW.out) hgrow (Ne.symm hvg)
      have k2 := Whole.grown (by exact HP.out) hgrow (Ne.symm hvh)
      have d0 := k0.cell 0
      have d1 := k0.cell 1
      have d2 := k2.cell 0
      have e1 := k0.frozen 1
      have e2 := k2.frozen 0
      simp only [List.getElem?_toArray, List.getElem?_cons_zero, List.getElem?_cons_succ] at d0 d1 d2
      have K0 := Lib.hid k0
      have K2 := Lib.hid k2
      have HO1 := Lib.hid hown1
      have HG1 := Lib.hid hgrow
      clear k0 k2 hown1 hgrow))
  all_goals
    go_wp2
    go_end0
    exact ⟨rfl, add_endK hg hh HM.out HT.out.1 K0.out K2.out HO1.out ((below_drewN (Below.refl _ _) _).grown HG1.out (by exact hB) (own_ge HO.out)) HK.out.1 HK.out.2.1 (fun b hb hK => by rcases HOR.out with e | e; exact HK.out.2.2.1 b (by rw [← e]; exact hb) hK; have h1 := HK.out.2.2.2 b hK; rw [hb] at e; injection e with e; have e2 : b = w.heap.size := e; omega) (fun b hlt hK => HG1.out.block b hlt (fun e => HK.out.2.2.1 b e.symm hK))⟩

set_option maxHeartbeats 1000000 in
theorem add_noneK (K : Nat → Prop) (B g : Nat) (t : List Int) (S : Nat → Prop) (a : Option Addr) (n c : Nat) (w : World) (hB : B ≤ w.heap.size) (hg : B ≤ g)
    (hw : Whole w g 51 #[.pointer none, .int .i64 0]) (ht : Txt w S a n c t) (hs : ∀ b, S b → b ≠ g) (hn : n ≤ 1099511627776) (hKg : ¬ K g) (hKs : ∀ b, K b → b < w.heap.size) :
    Calls Try.prog 45 #[.pointer (some ⟨g, 0, none⟩), .slice a n c] w fun e w' => e = .returned (.tuple #[]) ∧ Wr w' B g t ∧ Below B w w' ∧ Kept K w w' ∧ Away w' K g := by
  obtain ⟨i0, hi0, hz0, hz1, hz2⟩ := info_parts u8_info
  have HI := Lib.hid (And.intro hi0 (And.intro hz0 (And.intro hz1 hz2)))
  clear hi0 hz0 hz1 hz2
  have c0 := hw.cell 0
  have f0 := hw.frozen 0
  have hgs := hw.lt
  simp only [List.getElem?_toArray, List.getElem?_cons_zero] at c0
  have HW := Lib.hid hw
  have HT := Lib.hid ht
  have HF := Lib.hid (fun k => first_page k hB hg hw ht hs)
  have HFK : Hid (∀ k, Kept K w (((w.drewN k).alloc (Obj.cells #[.slice none 0 0] 78)).setCell ⟨g, 0, none⟩ (.pointer (some ⟨w.heap.size, 0, none⟩)))) := Lib.hid (fun k b hlt hK => by
    rw [Below.heap_setCell _ ⟨g, 0, none⟩ _ _ (fun e => hKg (by rw [← (show b = g from e)]; exact hK)), Below.heap_alloc _ _ _ (by exact hlt)]
    rfl)
  have HK := Lib.hid (And.intro hKg hKs)
  clear hKg hKs
  have a0 : ∀ k o, ((w.drewN k).alloc o).cell? ⟨g, 0, none⟩ = some (.pointer none) := fun k o => (Whole.alloc (w := w.drewN k) (by exact hw) o).cell 0
  have z0 : ∀ k o, ((w.drewN k).alloc o).frozen? ⟨g, 0, none⟩ = false := fun k o => (Whole.alloc (w := w.drewN k) (by exact hw) o).frozen 0
  clear hw ht hs
  go_enter Try.func45, Try.ntmps45
  go_wp2
  go_quiet (fail)
  go_wp2_with (go_at_call 29; refine (bytes_none _ _ (by exact c0)).mono ?_; rintro e w' ⟨rfl, rfl⟩)
  obtain ⟨hh, hB2, hw2, hp2, ht2, hb2⟩ := HF.out nq
  have hk2 := HFK.out nq
  have hz2 : w.heap.size ≤ (((w.drewN nq).alloc (Obj.cells #[.slice none 0 0] 78)).setCell ⟨g, 0, none⟩ (.pointer (some ⟨w.heap.size, 0, none⟩))).heap.size := by simp [World.setCell]
  have HKW := Lib.hid HK.out.2
  clear HF HFK a0 z0 HW HT c0 f0
  generalize ((w.drewN nq).alloc (Obj.cells #[.slice none 0 0] 78)).setCell ⟨g, 0, none⟩ (.pointer (some ⟨w.heap.size, 0, none⟩)) = w2 at *
  clear hB hgs
  generalize w.heap.size = h at *
  have hgh : g ≠ h := hw2.ne hp2 (by decide)
  have hown : w2.ownsRow B 5 1 (.slice none 0 0) 0 [] := World.ownsRow_nil _ _ _ _
  have c0 := hw2.cell 0
  have c1 := hw2.cell 1
  have c2 := hp2.cell 0
  have f1 := hw2.frozen 1
  have f2 := hp2.frozen 0
  simp only [List.getElem?_toArray, List.getElem?_cons_zero, List.getElem?_cons_succ] at c0 c1 c2
  have HW := Lib.hid hw2
  have HP := Lib.hid hp2
  have HO := Lib.hid hown
  have HT := Lib.hid ht2
  have HB2 := Lib.hid hb2
  have HK2 := Lib.hid (And.intro hk2 hz2)
  clear hk2 hz2
  clear hw2 hp2 hown ht2 hb2
  go_region_law
    ((refine step_append_txt _ (by rfl) _ _ _ (by rfl) B 5 i0 (.int .u8 0) 1 Try.underlying30 HI.out.1 HI.out.2.1 HI.out.2.2.1 HI.out.2.2.2 rfl (.slice none 0 0) 0 [] (by rfl) (by exact HO.out) S a n c t (by rfl) (by exact HT.out) (by unfold maxLen; omega) (by omega) (by exact hB2) ?_
      intro v' w1 hown1 hgrow hor
      have HOR := Lib.hid hor
      clear hor
      obtain ⟨q', cap', rfl⟩ := own_form hown1
      have k0 := Whole.grown (by exact HW.out) hgrow (by simp [Value.ownBlock])
      have k2 := Whole.grown (by exact HP.out) hgrow (by simp [Value.ownBlock])
      have d0 := k0.cell 0
      have d1 := k0.cell 1
      have d2 := k2.cell 0
      have e1 := k0.frozen 1
      have e2 := k2.frozen 0
      simp only [List.getElem?_toArray, List.getElem?_cons_zero, List.getElem?_cons_succ] at d0 d1 d2
      have K0 := Lib.hid k0
      have K2 := Lib.hid k2
      have HO1 := Lib.hid hown1
      have HG1 := Lib.hid hgrow
      clear k0 k2 hown1 hgrow))
  all_goals
    go_wp2
    go_end0
    exact ⟨rfl, add_end0K hg hh HT.out.1 K0.out K2.out (by have := HO1.out; rw [Nat.zero_add, List.nil_append] at this; exact this) (HB2.out.trans ((Below.refl _ _).drew.grown HG1.out (by exact hB2) (own_ge HO.out))) HK.out.1 (fun e => Nat.lt_irrefl _ (HKW.out _ e)) (fun b hb0 hK => by have hb : (Value.slice q' (0 + n) cap').ownBlock = some b := (by rw [Nat.zero_add]; exact hb0); rcases HOR.out with e | e; rw [hb] at e; cases e; have h1 := HKW.out b hK; rw [hb] at e; injection e with e; have e2 : b = w2.heap.size := e; have h3 := HK2.out.2; omega) (fun b hlt hK => (HG1.out.block b (Nat.lt_of_lt_of_le (HKW.out b hK) HK2.out.2) (by intro e; cases e)).trans (HK2.out.1 b hlt hK))⟩

theorem add_anyK {K : Nat → Prop} {B g : Nat} {l t : List Int} {S : Nat → Prop} {a : Option Addr} {n c : Nat} {w : World} (hB : B ≤ w.heap.size) (hw : Wr w B g l) (ht : Txt w S a n c t) (hs : ∀ b, S b → b ≠ g) (hl : l.length ≤ 1099511627776) (hn : n ≤ 1099511627776)
    (hA : Away w K g) (hKs : ∀ b, K b → b < w.heap.size) :
    Calls Try.prog 45 #[.pointer (some ⟨g, 0, none⟩), .slice a n c] w fun e w' => e = .returned (.tuple #[]) ∧ Wr w' B g (l ++ t) ∧ Below B w w' ∧ Kept K w w' ∧ Away w' K g := by
  rcases hw.2 with ⟨rfl, h⟩ | ⟨k, v, hk, h, hp, hown⟩
  · exact add_noneK K B g t S a n c w hB hw.1 h ht hs hn hA.1 hKs
  · have hx := hA.2 k (h.cell 0)
    exact add_someK K B g k v l t S a n c w hB hw.1 hk h hp hown ht hl hn hA.1 hx.1 (hx.2 v (hp.cell 0)) hKs
set_option maxHeartbeats 1000000 in
theorem int_anyK {K : Nat → Prop} {B g : Nat} {l : List Int} {w : World} (n : Int) (hB : B ≤ w.heap.size) (hw : Wr w B g l) (hl : l.length ≤ 1000000000000) (h0 : -9223372036854775808 ≤ n) (h1 : n ≤ 9223372036854775807) (hA : Away w K g) (hKs : ∀ b, K b → b < w.heap.size) :
    Calls Try.prog 26 #[.pointer (some ⟨g, 0, none⟩), .int .i64 n] w fun e w' => e = .returned (.tuple #[]) ∧ Wr w' B g (l ++ Cd.num n) ∧ Below B w w' ∧ Kept K w w' ∧ Away w' K g := by
  have HA := Lib.hid (And.intro hA hKs)
  clear hA hKs
  go_enter Try.func26, Try.ntmps26
  go_wp2_with fail
  refine (fold_any n _ h0 h1).mono ?_; rintro e w' ⟨rfl, rfl⟩
  obtain ⟨u, hu⟩ : ∃ u : Int, ((Cd.fold n : Nat) : Int) = u := ⟨_, rfl⟩
  have hu0 : 0 ≤ u := by omega
  have hu1 : u ≤ 18446744073709551615 := by have := Cd.fold_lt h0 h1; omega
  rw [hu]
  have HU := Lib.hid hu
  clear hu
  have HS := Lib.hid (intRel_start w u hu0 hu1)
  have HW := Lib.hid hw
  have HN : Hid (u.toNat = Cd.fold n) := Lib.hid (by have := HU.out; omega)
  obtain ⟨U, hU⟩ : ∃ U, u.toNat = U := ⟨_, rfl⟩
  rw [hU] at HS HN
  clear hw hU
  go_wp2
  go_loopw [5, 6] (fun s5 s6 wr => IntRel w U s5 s6 wr) (fun _ i _ => (intOf i).toNat)
  case atStart => exact HS.out
  case round =>
    obtain ⟨k, r, cs, suf, rfl, rfl, hk, hr0, hr1, hp, hwh, hsz, hd, hb, ht, hbl⟩ := hrel
    have HP := Lib.hid hp
    have HWH := Lib.hid hwh
    have HSZ := Lib.hid hsz
    have HD := Lib.hid hd
    have HB := Lib.hid hb
    have HT := Lib.hid ht
    have HBL := Lib.hid hbl
    clear hp hwh hsz hd hb ht hbl
    by_cases c : 0 < r
    · obtain ⟨j, rfl⟩ : ∃ j, k = j + 1 := by
        cases k with
        | zero => have := HP.out; rw [Nat.pow_zero] at this; omega
        | succ j => exact ⟨j, rfl⟩
      have hc : wr.cell? ⟨w.heap.size, j, none⟩ = some (cs[j]'(by rw [HSZ.out]; omega)) := by rw [HWH.out.cell]; simp [show j < cs.size by rw [HSZ.out]; omega]
      have hf := HWH.out.frozen j
      have hj0 : (0 : Int) ≤ (j : Int) := by omega
      have hj1 : (j : Int) < 10 := by omega
      go_wp2
      exact ⟨intRel_step hk c hr1 HP.out HWH.out HSZ.out HD.out HB.out HT.out HBL.out, by simp [intOf]⟩
    · have hr : r = 0 := by omega
      have hsl := slice_ten w.heap.size k hk
      have HX : Hid (Txt wr (· = w.heap.size) (some ⟨w.heap.size, k, none⟩) (10 - k) (10 - k) (Cd.num n)) := Lib.hid (by
        have h1 := HT.out
        rw [hr, show (0 : Int).toNat = 0 by rfl, Cd.tops_zero, List.nil_append, HN.out] at h1
        have h2 := HD.out
        have h3 := HB.out
        rw [h1] at h2 h3
        exact txt_array HWH.out HSZ.out hk h2 h3)
      have HW2 : Hid (Wr wr B g l) := Lib.hid (HW.out.below HBL.out)
      have HG : Hid (∀ b, b = w.heap.size → b ≠ g) := Lib.hid (by have := HW.out.lt; intro b hb; omega)
      have hBr : B ≤ wr.heap.size := by have := HBL.out.size; omega
      clear HP HWH HSZ HD HB HT
      go_wp2_with (go_at_call 45; refine (add_anyK (K := K) hBr HW2.out HX.out HG.out (by omega) (by omega) (HA.out.1.below HW.out HBL.out) (fun b hK => Nat.lt_of_lt_of_le (HA.out.2 b hK) HBL.out.size)).mono ?_; rintro e w2 ⟨rfl, hw2, hb2, hk2, ha2⟩)
      go_end0
      exact ⟨rfl, hw2, (HBL.out.mono hB).trans hb2, fun b hlt hK => (hk2 b (Nat.lt_of_lt_of_le hlt HBL.out.size) hK).trans (HBL.out.block b hlt), ha2⟩

theorem text_anyK {B g : Nat} {l t : List Int} {S : Nat → Prop} {a : Option Addr} {n c : Nat} {w : World} (hB : B ≤ w.heap.size) (hw : Wr w B g l) (ht : Txt w S a n c t) (hA : Away w S g) (hs : ∀ b, S b → b < w.heap.size) (hl : l.length ≤ 900000000000) (hn : n ≤ 1099511627776) :
    Calls Try.prog 28 #[.pointer (some ⟨g, 0, none⟩), .slice a n c] w fun e w' => e = .returned (.tuple #[]) ∧ Wr w' B g (l ++ (Cd.num t.length ++ t)) ∧ Below B w w' := by
  have hlen := ht.1
  rw [hlen]
  have HW := Lib.hid hw
  have HT := Lib.hid ht
  have HS := Lib.hid (And.intro hA hs)
  clear hw ht hs hlen hA
  go_enter Try.func28, Try.ntmps28
  go_wp2_with fail
  refine (int_anyK (K := S) (n : Int) hB HW.out (by omega) (by omega) (by omega) HS.out.1 HS.out.2).mono ?_; rintro e w1 ⟨rfl, hw1, hb1, hk1, ha1⟩
  have HT1 := Lib.hid (HT.out.keep hb1.size (fun b hlt hS => hk1 b hlt hS))
  have HA1 := Lib.hid ha1
  clear hk1 ha1
  have HW1 := Lib.hid hw1
  have HB1 := Lib.hid hb1
  clear hw1 hb1
  go_wp2_with fail
  have hz := HB1.out.size
  have hnl : (Cd.num (n : Int)).length ≤ 10 := Cd.num_len (by omega) (by omega)
  refine (add_any (by omega) HW1.out HT1.out (fun b h e => HA1.out.1 (by rw [← e]; exact h)) (by simp; omega) hn).mono ?_; rintro e w2 ⟨rfl, hw2, hb2⟩
  have HW2 := Lib.hid hw2
  have HB2 := Lib.hid hb2
  clear hw2 hb2 hnl hz
  go_wp2
  go_end0
  exact ⟨rfl, by have := HW2.out; rw [List.append_assoc] at this; exact this, HB1.out.trans HB2.out⟩

end Go.Proofs.Ytcfchkffanfehaa.Co
