/-
  The package's Pick: chunks, and peers, gone round by a closure that is ranged over.
-/
import Derived.Test.YtiogfkhmigbgpaaDoorX3
namespace Go.Proofs.YtiogfkhmigbgpaaDoor
open Go.RowKit Go.Shelf
attribute [local go_sem] Oper.semAt_some
set_option linter.unusedVariables false
set_option linter.unusedSimpArgs false
set_option maxRecDepth 100000
theorem Boxed.below {B : Nat} {w w' : World} {g : Nat} {t : TypeId} {v : Value} (h : Boxed w g t v) (hb : Below B w w') (hg : g < B) : Boxed w' g t v := (hb.block g hg).trans h
set_option maxHeartbeats 16000000 in
theorem pick_any {w : World} {S S' : Nat → Prop} {a b : Option Addr} {n c m c' : Nat} {hv : List Bool} {ps : List (List Bool)} (h : BE.Row w S a n hv) (h' : Bns w S' b m ps) (hn : n ≤ 1000) (hm : m ≤ 1000) (d : Int) (hd0 : 0 ≤ d) (hd : d < 18446744073709551616) :
    Calls Tryd.prog 9 #[.slice a n c, .slice b m c', .int .u64 d] w fun e w' => e = .returned (.tuple #[.int .i64 (Tr.pick hv ps d).1, .int .i64 (Tr.pick hv ps d).2.1, .bool (Tr.pick hv ps d).2.2]) ∧ Below w.heap.size w w' := by
  obtain ⟨D, rfl⟩ : ∃ D : Nat, d = (D : Int) := ⟨d.toNat, by omega⟩
  have HD : Hid (D < 18446744073709551616) := Lib.hid (by omega)
  have HN := Lib.hid (And.intro h.1 h'.1)
  have H := Lib.hid (And.intro h.old h'.old)
  clear h h' hd0 hd
  refine (callsIn_wide (n := 8)).1 ?_
  refine callsIn_of_wp_marks Tryd.func9 rfl trivial ?_ rfl
  simp only [Tryd.ntmps9, List.size_toArray, List.length_cons, List.length_nil, Nat.reduceAdd, Nat.reduceSub, Array.replicate_succ, Array.replicate_zero, List.push_toArray, List.append_toArray, List.nil_append, List.cons_append]
  gi_wp2_with fail
  have hb5 : Below w.heap.size w (((((w.alloc (.cells #[.slice b m c'] 23)).alloc (.cells #[.int .u64 (D : Int)] 24)).alloc (.cells #[.int .i64 0] 3)).alloc (.cells #[.int .i64 0] 3)).alloc (.cells #[.bool false] 4)) :=
    (((((Below.refl _ w).alloc (Nat.le_refl _) _).alloc (by simp) _).alloc (by simp; omega) _).alloc (by simp; omega) _).alloc (by simp; omega) _
  have x1 := ((((Boxed.new w 23 (.slice b m c')).alloc (.cells #[.int .u64 (D : Int)] 24)).alloc (.cells #[.int .i64 0] 3)).alloc (.cells #[.int .i64 0] 3)).alloc (.cells #[.bool false] 4)
  have x2 := (((Boxed.new (w.alloc (.cells #[.slice b m c'] 23)) 24 (.int .u64 (D : Int))).alloc (.cells #[.int .i64 0] 3)).alloc (.cells #[.int .i64 0] 3)).alloc (.cells #[.bool false] 4)
  have x3 := ((Boxed.new ((w.alloc (.cells #[.slice b m c'] 23)).alloc (.cells #[.int .u64 (D : Int)] 24)) 3 (.int .i64 0)).alloc (.cells #[.int .i64 0] 3)).alloc (.cells #[.bool false] 4)
  have x4 := (Boxed.new (((w.alloc (.cells #[.slice b m c'] 23)).alloc (.cells #[.int .u64 (D : Int)] 24)).alloc (.cells #[.int .i64 0] 3)) 3 (.int .i64 0)).alloc (.cells #[.bool false] 4)
  have x5 := Boxed.new ((((w.alloc (.cells #[.slice b m c'] 23)).alloc (.cells #[.int .u64 (D : Int)] 24)).alloc (.cells #[.int .i64 0] 3)).alloc (.cells #[.int .i64 0] 3)) 4 (.bool false)
  simp only [World.size_alloc] at x2 x3 x4 x5
  have hz : (((((w.alloc (.cells #[.slice b m c'] 23)).alloc (.cells #[.int .u64 (D : Int)] 24)).alloc (.cells #[.int .i64 0] 3)).alloc (.cells #[.int .i64 0] 3)).alloc (.cells #[.bool false] 4)).heap.size = w.heap.size + 5 := by simp
  obtain ⟨w5, hw5⟩ : ∃ x, (((((w.alloc (.cells #[.slice b m c'] 23)).alloc (.cells #[.int .u64 (D : Int)] 24)).alloc (.cells #[.int .i64 0] 3)).alloc (.cells #[.int .i64 0] 3)).alloc (.cells #[.bool false] 4)) = x := ⟨_, rfl⟩
  rw [hw5] at hb5 x1 x2 x3 x4 x5 hz ⊢
  clear hw5
  obtain ⟨gE, hgE⟩ : ∃ x, w.heap.size + 1 = x := ⟨_, rfl⟩
  rw [hgE] at x2 x3 x4 x5 ⊢
  obtain ⟨gC, hgC⟩ : ∃ x, gE + 1 = x := ⟨_, rfl⟩
  rw [hgC] at x3 x4 x5 ⊢
  obtain ⟨gP, hgP⟩ : ∃ x, gC + 1 = x := ⟨_, rfl⟩
  rw [hgP] at x4 x5 ⊢
  obtain ⟨gB, hgB⟩ : ∃ x, gP + 1 = x := ⟨_, rfl⟩
  rw [hgB] at x5 ⊢
  obtain ⟨gA, hgA⟩ : ∃ x, w.heap.size = x := ⟨_, rfl⟩
  rw [hgA] at x1 ⊢
  have HS := Lib.hid (And.intro hgA (And.intro hgE (And.intro hgC (And.intro hgP (And.intro hgB hz)))))
  have HX := Lib.hid (And.intro hb5 (And.intro x1 (And.intro x2 (And.intro x3 (And.intro x4 x5)))))
  have HR := Lib.hid (And.intro (H.out.1.below hb5 (fun _ h _ => h)) (H.out.2.below hb5 (fun _ h _ => h)))
  clear hb5 x1 x2 x3 x4 x5 hz hgA hgE hgC hgP hgB
  refine ⟨trivial, (callsIn_wide.2 (sought_any HR.out.1 HR.out.2 hn hm)).mono ?_⟩
  rintro e w6 ⟨aS, nS, cS, rfl, hO, hb6⟩
  obtain rfl : nS = n := by have := hO.len; rw [Tr.sg_len, HN.out.1] at this; exact this.symm
  have y0 := Boxed.new w6 22 (.slice aS nS cS)
  have y1 := (Boxed.below HX.out.2.1 hb6 HX.out.2.1.lt).alloc (.cells #[.slice aS nS cS] 22)
  have y2 := (Boxed.below HX.out.2.2.1 hb6 HX.out.2.2.1.lt).alloc (.cells #[.slice aS nS cS] 22)
  have y3 := (Boxed.below HX.out.2.2.2.1 hb6 HX.out.2.2.2.1.lt).alloc (.cells #[.slice aS nS cS] 22)
  have y4 := (Boxed.below HX.out.2.2.2.2.1 hb6 HX.out.2.2.2.2.1.lt).alloc (.cells #[.slice aS nS cS] 22)
  have y5 := (Boxed.below HX.out.2.2.2.2.2 hb6 HX.out.2.2.2.2.2.lt).alloc (.cells #[.slice aS nS cS] 22)
  have b7 : Below w6.heap.size w6 (w6.alloc (.cells #[.slice aS nS cS] 22)) := (Below.refl _ w6).alloc (Nat.le_refl _) _
  have z7 : (w6.alloc (.cells #[.slice aS nS cS] 22)).heap.size = w6.heap.size + 1 := by simp
  obtain ⟨w7, hw7⟩ : ∃ x, w6.alloc (.cells #[.slice aS nS cS] 22) = x := ⟨_, rfl⟩
  rw [hw7] at y0 y1 y2 y3 y4 y5 b7 z7
  have hsz : w5.heap.size ≤ w6.heap.size := hb6.size
  have HO := Lib.hid (hO.below b7)
  have HR := Lib.hid (And.intro (HR.out.1.below (hb6.trans (b7.mono hsz)) (fun _ h _ => h)) (HR.out.2.below (hb6.trans (b7.mono hsz)) (fun _ h _ => h)))
  have HB : Hid (Below w.heap.size w w7 ∧ gB < w6.heap.size) := Lib.hid ⟨HX.out.1.trans ((hb6.trans (b7.mono hsz)).mono HX.out.1.size), Nat.lt_of_lt_of_le HX.out.2.2.2.2.2.lt hsz⟩
  have cE := y2.cell
  have c0 := y0.cell
  clear HX hO hb6 b7
  gi_wp2_with fail
  obtain ⟨g7, hg7⟩ : ∃ x, w6.heap.size = x := ⟨_, rfl⟩
  rw [hg7] at y0 z7 hsz HB ⊢
  clear cE c0 hw7 hg7
  refine ⟨trivial, (callsIn_wide.2 (around_in nS D hn (by have := HD.out; omega) w7)).mono ?_⟩
  rintro e w8 ⟨rfl, hw8⟩
  obtain ⟨gD, hgD⟩ : ∃ x, w7.heap.size = x := ⟨_, rfl⟩
  rw [hgD] at z7 ⊢
  obtain ⟨gN, hgN⟩ : ∃ x, gD + 1 = x := ⟨_, rfl⟩
  rw [hgN]
  have b8 : Below gD w7 w8 := by rw [hw8]; exact ((Below.refl _ w7).alloc (by omega) _).alloc (by simp; omega) _
  have hcN : w8.cell? ⟨gN, 0, none⟩ = some (.int .u64 (nS : Int)) := by
    have := (Boxed.new (w7.alloc (.cells #[.int .u64 (D : Int)] 24)) 24 (.int .u64 (nS : Int))).cell
    rw [← hw8, World.size_alloc, hgD, hgN] at this
    exact this
  have hcD : w8.cell? ⟨gD, 0, none⟩ = some (.int .u64 (D : Int)) := by
    have := ((Boxed.new w7 24 (.int .u64 (D : Int))).alloc (.cells #[.int .u64 (nS : Int)] 24)).cell
    rw [← hw8, hgD] at this
    exact this
  have z8 : w8.heap.size = gN + 1 := by rw [hw8]; simp; omega
  obtain ⟨P, hP⟩ : ∃ P : Nat → Bool, (fun c => !hv.getD c false && Tr.some_ ps c) = P := ⟨_, rfl⟩
  have hsg : ∀ x, x < nS → (Tr.sg hv (Tr.some_ ps)).getD x false = P x := fun x hx => by rw [Tr.sg_at (by rw [HN.out.1]; exact hx), ← hP]
  have HP := Lib.hid hP
  have HW : Hid (BE.Row w8 (fun b => b < gD) aS nS (Tr.sg hv (Tr.some_ ps)) ∧ Bns w8 (fun b => b < gD) b m ps) := Lib.hid
    ⟨(HO.out.row.old).below b8 (fun b h _ => by rw [hgD] at h; exact h) |>.weak (fun b _ h => by rw [hgD] at h; exact h), (HR.out.2.old).below b8 (fun b h _ => by rw [hgD] at h; exact h) |>.weak (fun b _ h => by rw [hgD] at h; exact h)⟩
  have HG := Lib.hid hsg
  have hbw : Below w.heap.size w w8 := HB.out.1.trans (b8.mono (by have := HB.out.1.size; omega))
  have hwz : w.heap.size ≤ gA ∧ gA < g7 ∧ gE < g7 ∧ gC < g7 ∧ gP < g7 ∧ gB < g7 ∧ g7 < gD ∧ gA ≠ gC ∧ gA ≠ gP ∧ w.heap.size ≤ gC ∧ gC + 1 = gP ∧ gP + 1 = gB := by
    have := HS.out
    have := HB.out.2
    omega
  have k0 := Boxed.below y0 b8 (by omega)
  have k1 := Boxed.below y1 b8 (by omega)
  have k2 := Boxed.below y2 b8 (by omega)
  have k3 := Boxed.below y3 b8 (by omega)
  have k4 := Boxed.below y4 b8 (by omega)
  have k5 := Boxed.below y5 b8 (by omega)
  clear y0 y1 y2 y3 y4 y5 hw8 b8 HB HO HR HS H hP hsg z7 hsz
  gi_wp2
  refine wpIn_rangeFunc_ownH (F := Fence.wide) (n := 8) rfl (by omega) (gf := 39) (lb := #[.pointer (some ⟨gN, 0, none⟩), .pointer (some ⟨gD, 0, none⟩)]) rfl trivial (enters_of Tryd.func39 (by kernel_rfl) rfl)
    (around_stops (8 - 1) gN gD w8.heap.size nS D hn (by have := HD.out; omega) w8 (by omega) (by omega) (Nat.le_refl _) hcN hcD) belowK_t (belowK_b (Nat.le_refl _)) (Below.refl _ _) (fun _ => rfl)
    (fun pre W => (∀ z ∈ pre, P z.1 = false) ∧ Below w8.heap.size w8 W)
    (fun cd pre W => cd = .ret ∧ ∃ q x y, pre = q ++ [x] ∧ (∀ z ∈ q, P z.1 = false) ∧ P x.1 = true ∧ Tr.first m (D / 4294967296 % m) (fun p => Tr.has (ps.getD p []) x.1) = some y ∧ Boxed W gC 3 (.int .i64 (x.1 : Int)) ∧ Boxed W gP 3 (.int .i64 (y : Int)) ∧ Boxed W gB 4 (.bool true) ∧ Below w.heap.size w W)
    (OwnFrom.and (ownFrom_pure _ _) (ownFrom_below (Nat.le_refl _) (Nat.le_refl _)))
    (fun cd s A B row hs hg hr => by
      obtain ⟨hc, q, x, y, h1, h2, h3, h4, b1, b2, b3, hb⟩ := hs
      exact ⟨hc, q, x, y, h1, h2, h3, h4, boxed_own gC 3 (fun (_ : Unit) => Value.int .i64 (x.1 : Int)) () A B row b1 hg (fun r e => (hr r e).2), boxed_own gP 3 (fun (_ : Unit) => Value.int .i64 (y : Int)) () A B row b2 hg (fun r e => (hr r e).2), boxed_own gB 4 (fun (_ : Unit) => Value.bool true) () A B row b3 hg (fun r e => (hr r e).2), ownFrom_below (β := Unit) (Nat.le_refl _) hbw.size () A B row hb hg hr⟩)
    ⟨by simp, Below.refl _ _⟩
    (fun x a' W => ∃ Bx, w8.heap.size ≤ Bx ∧ Boxed W Bx 3 (.int .i64 (x.1 : Int)) ∧ a' = { tmps := #[.slice a nS c, .slice b m c', .int .u64 (D : Int), undef, .pointer (some ⟨gA, 0, none⟩), .pointer (some ⟨gE, 0, none⟩), .pointer (some ⟨gC, 0, none⟩), .pointer (some ⟨gP, 0, none⟩), .pointer (some ⟨gB, 0, none⟩), .pointer (some ⟨g7, 0, none⟩), .pointer (some ⟨Bx, 0, none⟩), undef, .slice a nS c, .slice b m c', .slice aS nS cS, .slice aS nS cS, .int .i64 (nS : Int), .int .u64 (D : Int), .func (.func 39) #[] #[.pointer (some ⟨gN, 0, none⟩), .pointer (some ⟨gD, 0, none⟩)], .int .i64 (x.1 : Int), undef, undef, undef, undef, undef, undef, undef, undef, undef, undef, undef, undef, undef, undef, undef, undef, undef, undef, undef], defers := [] })
    (fun x a' _ X Y row hs hg hr => by obtain ⟨Bx, e1, e2, e3⟩ := hs; exact ⟨Bx, e1, boxed_own Bx 3 (fun (_ : Unit) => Value.int .i64 (x.1 : Int)) () X Y row e2 hg (fun r e => (hr r e).2), e3⟩)
    ?assign ?body ?done ?stop
  case assign =>
    rintro l pre x W K ⟨hp, hb⟩ hK
    gi_wp2
    exact hK _ _ ((KeepsOthers.alloc _ _).from _) ((Below.refl _ W).alloc hb.size _) ⟨hp, hb.alloc hb.size _⟩ ⟨W.heap.size, hb.size, Boxed.new W 3 _, rfl⟩
  case body =>
    rintro l pre x a' W hl ⟨r, hr⟩ ⟨hp, hb⟩ ⟨Bx, hBx, bX, rfl⟩ hlt
    dsimp only
    have e0 := (Boxed.below k0 hb (by omega)).cell
    have e1 := (Boxed.below k1 hb (by omega)).cell
    have e2 := (Boxed.below k2 hb (by omega)).cell
    have eX := bX.cell
    obtain ⟨x, hx⟩ := x
    dsimp only at bX eX ⊢
    obtain ⟨bs, os, rfl, _, _, hcs⟩ := be_cells (HW.out.1.below hb (fun b _ h => by omega)) (by omega)
    have es := hcs x hx
    rw [HG.out x hx] at es
    have q : (x : Int) < (nS : Int) := by omega
    clear hcs
    cases hpx : P x
    case false =>
      rw [hpx] at es
      gi_wp2
      exact ⟨KeepsFrom.refl _ _, Below.refl _ _, fun z hz => (List.mem_append.1 hz).elim (hp z) (fun e => by rw [List.mem_singleton.1 e]; exact hpx), hb⟩
    rw [hpx] at es
    have h1' : 1 ≤ 8 - 1 - 1 := by omega
    gi_wp2_with fail
    clear e0 e1 e2 eX es q
    have hq : IntKind.u64.wrap ((D : Int) / 4294967296) = ((D / 4294967296 : Nat) : Int) := by rw [IntKind.wrap_u64]; have := HD.out; omega
    rw [hq]
    clear hq
    have hE64 : ((D / 4294967296 : Nat) : Int) < 18446744073709551616 := by have := HD.out; omega
    obtain ⟨E, hE⟩ : ∃ E, D / 4294967296 = E := ⟨_, rfl⟩
    rw [hE] at hE64 ⊢
    refine ⟨trivial, (CallsIn.inRound l (callsIn_wide.2 (around_in m E hm hE64 W))).mono ?_⟩
    rintro e W2 ⟨rfl, hW2⟩
    have b2 : Below W.heap.size W W2 := by rw [hW2]; exact ((Below.refl _ W).alloc (Nat.le_refl _) _).alloc (by simp) _
    have kf2 : KeepsFrom w8.heap.size W W2 := by rw [hW2]; exact ((KeepsOthers.alloc _ _).trans (KeepsOthers.alloc _ _)).from _
    have hcM : W2.cell? ⟨W.heap.size + 1, 0, none⟩ = some (.int .u64 (m : Int)) := by
      have := (Boxed.new (W.alloc (.cells #[.int .u64 (E : Int)] 24)) 24 (.int .u64 (m : Int))).cell
      rw [← hW2, World.size_alloc] at this
      exact this
    have hcF : W2.cell? ⟨W.heap.size, 0, none⟩ = some (.int .u64 (E : Int)) := by
      have := ((Boxed.new W 24 (.int .u64 (E : Int))).alloc (.cells #[.int .u64 (m : Int)] 24)).cell
      rw [← hW2] at this
      exact this
    have z2 : W2.heap.size = W.heap.size + 2 := by rw [hW2]; simp
    obtain ⟨gF, hgF⟩ : ∃ x, W.heap.size = x := ⟨_, rfl⟩
    have hWz : w8.heap.size ≤ gF := by rw [← hgF]; exact hb.size
    rw [hgF] at hcM hcF z2 b2 ⊢
    obtain ⟨gM, hgM⟩ : ∃ x, gF + 1 = x := ⟨_, rfl⟩
    rw [hgM] at hcM ⊢
    have hr2 : W2.heap[l]? = some (.loop r) := (b2.block l (by rw [← hgF]; exact (Array.getElem?_eq_some_iff.1 hr).1)).trans hr
    have hBxlt : Bx < gF := by rw [← hgF]; exact bX.lt
    have hBX2 : Boxed W2 Bx 3 (.int .i64 (x : Int)) := Boxed.below bX b2 hBxlt
    have hb82 : Below w8.heap.size w8 W2 := hb.trans (b2.mono hWz)
    clear hW2 bX hcN hcD
    gi_wp2
    refine wpIn_rangeFunc_ownN (F := Fence.wide.inRound l) (n := 8 - 1 - 1) (l₀ := l) (r₀ := r) rfl hr2 h1' (gf := 39) (lb := #[.pointer (some ⟨gM, 0, none⟩), .pointer (some ⟨gF, 0, none⟩)]) rfl trivial (enters_of Tryd.func39 (by kernel_rfl) rfl)
      ((around_stops (8 - 1 - 1 - 1) gM gF W2.heap.size m E hm hE64 W2 (by omega) (by omega) (Nat.le_refl _) hcM hcF).inRound l) belowK_t (belowK_b (Nat.le_refl _)) (Below.refl _ _) (fun _ => rfl)
      (fun pre' W' => (∀ z ∈ pre', Tr.has (ps.getD z.1 []) x = false) ∧ (Below W2.heap.size W2 W' ∧ KeepsFrom w8.heap.size W W'))
      (fun cd pre' W' => cd = .ret ∧ ∃ q y, pre' = q ++ [y] ∧ (∀ z ∈ q, Tr.has (ps.getD z.1 []) x = false) ∧ Tr.has (ps.getD y.1 []) x = true ∧ Boxed W' gC 3 (.int .i64 (x : Int)) ∧ Boxed W' gP 3 (.int .i64 (y.1 : Int)) ∧ Boxed W' gB 4 (.bool true) ∧ (Below w.heap.size w W' ∧ KeepsFrom w8.heap.size W W'))
      (OwnFrom.and (ownFrom_pure _ _) (OwnFrom.and (ownFrom_below (Nat.le_refl _) (Nat.le_refl _)) (ownFrom_keepsFrom (by omega))))
      (fun cd s A B row hs hg hr => by
        obtain ⟨hc, q, y, h1, h2, h3, b1, b2, b3, hb1, hb2⟩ := hs
        exact ⟨hc, q, y, h1, h2, h3, boxed_own gC 3 (fun (_ : Unit) => Value.int .i64 (x : Int)) () A B row b1 hg (fun r e => (hr r e).2), boxed_own gP 3 (fun (_ : Unit) => Value.int .i64 (y.1 : Int)) () A B row b2 hg (fun r e => (hr r e).2), boxed_own gB 4 (fun (_ : Unit) => Value.bool true) () A B row b3 hg (fun r e => (hr r e).2), ownFrom_below (β := Unit) (Nat.le_refl _) (by have := hbw.size; omega) () A B row hb1 hg hr, ownFrom_keepsFrom (β := Unit) (by omega) () A B row hb2 hg hr⟩)
      ⟨by simp, Below.refl _ _, kf2⟩
      (fun y a'' _ => a'' = { tmps := #[.slice a nS c, .slice b m c', .int .u64 (D : Int), undef, .pointer (some ⟨gA, 0, none⟩), .pointer (some ⟨gE, 0, none⟩), .pointer (some ⟨gC, 0, none⟩), .pointer (some ⟨gP, 0, none⟩), .pointer (some ⟨gB, 0, none⟩), .pointer (some ⟨g7, 0, none⟩), .pointer (some ⟨Bx, 0, none⟩), .int .i64 (y.1 : Int), .slice a nS c, .slice b m c', .slice (some ⟨bs, os, none⟩) nS cS, .slice (some ⟨bs, os, none⟩) nS cS, .int .i64 (nS : Int), .int .u64 (D : Int), .func (.func 39) #[] #[.pointer (some ⟨gN, 0, none⟩), .pointer (some ⟨gD, 0, none⟩)], .int .i64 (x : Int), .slice (some ⟨bs, os, none⟩) nS cS, .int .i64 (x : Int), .pointer (some ⟨bs, os + x, none⟩), .bool true, .bool false, .slice b m c', .int .i64 (m : Int), .int .u64 (D : Int), .int .u64 (E : Int), .func (.func 39) #[] #[.pointer (some ⟨gM, 0, none⟩), .pointer (some ⟨gF, 0, none⟩)], .int .i64 (y.1 : Int), undef, undef, undef, undef, undef, undef, undef, undef], defers := [] })
      (fun _ _ _ _ _ _ hs _ _ => hs)
      ?assign2 ?body2 ?done2 ?stop2
    case assign2 =>
      rintro l2 pre' y W' K hi hK
      gi_wp2
      exact hK _ _ (KeepsFrom.refl _ _) (Below.refl _ _) hi rfl
    case body2 =>
      rintro l2 pre' y a'' W' _ _ ⟨hq, hB2, hKF⟩ rfl _
      dsimp only
      clear hE64 hcM hcF
      obtain ⟨y, hy⟩ := y
      dsimp only
      have hz2 : gD ≤ W2.heap.size := by omega
      have hb8 : Below w8.heap.size w8 W' := hb82.trans (hB2.mono (by omega))
      obtain ⟨bp, op, rfl, ad, mj, cj, cp, hrow⟩ := (HW.out.2.below hb8 (fun b _ h => by omega)).at_ hy
      have f1 : W'.drew.cell? ⟨gA, 0, none⟩ = some (.slice (some ⟨bp, op, none⟩) m c') := (Boxed.below k1 hb8 (by omega)).cell
      have bX2 := Boxed.below hBX2 hB2 (by omega)
      have f2 : W'.drew.cell? ⟨Bx, 0, none⟩ = some (.int .i64 (x : Int)) := bX2.cell
      have f3 : W'.drew.cell? ⟨bp, op + y, none⟩ = some (.slice ad mj cj) := cp
      have HRW := Lib.hid (hrow.below (Below.refl gD W').drew (fun _ _ h => h))
      have q2 : (y : Int) < (m : Int) := by omega
      have hmo : Tryd.prog.follows .mixedOrders = true := by kernel_rfl
      obtain ⟨v, hv'⟩ : ∃ v, Tr.has (ps.getD y []) x = v := ⟨_, rfl⟩
      gi_wp2
      gi_region_with_o (refine ⟨trivial, ?_⟩; gi_at_call 26; refine (CallsIn.inRound l2 (CallsIn.inRound l (callsIn_wide.2 (isthere_any HRW.out x)))).mono ?_; rintro e w' ⟨rfl, rfl⟩; rw [hv'])
      all_goals
        clear f1 f3 cp hrow HRW
        cases v
        · clear f2
          gi_wp2
          exact ⟨(KeepsOthers.drew _).from _, (Below.refl _ W').drew, fun z hz => (List.mem_append.1 hz).elim (hq z) (fun e => by rw [List.mem_singleton.1 e]; exact hv'), hB2.drew, hKF.trans ((KeepsOthers.drew W').from _)⟩
        · have kC := Boxed.below k3 hb8.drew (by omega)
          have kP := Boxed.below k4 hb8.drew (by omega)
          have kB := Boxed.below k5 hb8.drew (by omega)
          have c3 := kC.cell
          have c4 := kP.cell
          have c5 := kB.cell
          have f3 := kC.frozen
          have f4 := kP.frozen
          have f5 := kB.frozen
          have hd1 : KeepsFrom W2.heap.size W' W'.drew := (KeepsOthers.drew W').from _
          have hd2 : KeepsFrom w8.heap.size W W'.drew := hKF.trans ((KeepsOthers.drew W').from _)
          have hbW : Below w.heap.size w W'.drew := hbw.trans (hb8.drew.mono hbw.size)
          generalize W'.drew = wd at *
          gi_wp2
          have s3 := ((kC.set (.int .i64 (x : Int))).other (B' := gP) (by omega) (.int .i64 (y : Int))).other (B' := gB) (by omega) (.bool true)
          have s4 := ((kP.other (B' := gC) (by omega) (.int .i64 (x : Int))).set (.int .i64 (y : Int))).other (B' := gB) (by omega) (.bool true)
          have s5 := ((kB.other (B' := gC) (by omega) (.int .i64 (x : Int))).other (B' := gP) (by omega) (.int .i64 (y : Int))).set (.bool true)
          have hKK := (KeepsOthers.setCell wd ⟨gC, 0, none⟩ (.int .i64 (x : Int))).trans ((KeepsOthers.setCell _ ⟨gP, 0, none⟩ (.int .i64 (y : Int))).trans (KeepsOthers.setCell _ ⟨gB, 0, none⟩ (.bool true)))
          exact ⟨hd1.trans (hKK.from _), rfl, pre', ⟨y, hy⟩, rfl, hq, hv', s3, s4, s5, ((hbW.setCell (p := ⟨gC, 0, none⟩) (by show w.heap.size ≤ gC; omega) _).setCell (p := ⟨gP, 0, none⟩) (by show w.heap.size ≤ gP; omega) _).setCell (p := ⟨gB, 0, none⟩) (by show w.heap.size ≤ gB; omega) _, hd2.trans (hKK.from _)⟩
    case done2 =>
      rintro ys' W' rfl ⟨hq, hB2, hKF⟩
      exfalso
      have h1 := HP.out
      have h2 : (!hv.getD x false && Tr.some_ ps x) = true := by rw [← hpx, ← h1]
      rw [Bool.and_eq_true] at h2
      obtain ⟨p, hp1, hp2⟩ := Tr.some_of_at h2.2
      rw [HN.out.2] at hp1
      obtain ⟨k, hk, hk2⟩ := Tr.round (s := E % m) hp1
      have := ring_none (P := fun p => Tr.has (ps.getD p []) x) hq
      have := Tr.first_none this p hp1
      rw [hp2] at this
      cases this
    case stop2 =>
      rintro cd pre' W' hpre ⟨rfl, q, y, rfl, hq, hy, c1, c2, c3, hB2, hKF⟩
      gi_wp2
      have hf := ring_first (P := fun p => Tr.has (ps.getD p []) x) hpre hq hy
      exact ⟨hKF, rfl, pre, ⟨x, hx⟩, y.1, rfl, hp, hpx, by rw [hE]; exact hf, c1, c2, c3, hB2⟩
  case done =>
    rintro D' zs W hD rfl ⟨hp, hB⟩ hK
    have kC := Boxed.below k3 hB (by omega)
    have kP := Boxed.below k4 hB (by omega)
    have kB := Boxed.below k5 hB (by omega)
    have c3 := kC.cell
    have c4 := kP.cell
    have c5 := kB.cell
    have f3 := kC.frozen
    have f4 := kP.frozen
    have f5 := kB.frozen
    have HE : Tr.pick hv ps (D : Int) = (0, 0, false) := by
      have := ring_none hp
      unfold Tr.pick
      rw [HN.out.1, Int.toNat_natCast, HP.out, this]
    clear hcN hcD
    gi_wp2
    have hK' := ((KeepsOthers.setCell W ⟨gC, 0, none⟩ (.int .i64 0)).trans ((KeepsOthers.setCell _ ⟨gP, 0, none⟩ (.int .i64 0)).trans (KeepsOthers.setCell _ ⟨gB, 0, none⟩ (.bool false)))).same D' _ hK rfl
    refine ⟨by simp, .inl ⟨_, _, rfl, run_takeDeferred hK', ?_⟩⟩
    rw [HE]
    have s3 := ((kC.set (.int .i64 0)).other (B' := gP) (by omega) (.int .i64 0)).other (B' := gB) (by omega) (.bool false)
    have s4 := ((kP.other (B' := gC) (by omega) (.int .i64 0)).set (.int .i64 0)).other (B' := gB) (by omega) (.bool false)
    have s5 := ((kB.other (B' := gC) (by omega) (.int .i64 0)).other (B' := gP) (by omega) (.int .i64 0)).set (.bool false)
    have r3 := cell_kept s3.cell (grownBy_putObj' _ D' (.deferred none)) (fun r e => by cases e; exact ⟨_, hK', rfl⟩)
    have r4 := cell_kept s4.cell (grownBy_putObj' _ D' (.deferred none)) (fun r e => by cases e; exact ⟨_, hK', rfl⟩)
    have r5 := cell_kept s5.cell (grownBy_putObj' _ D' (.deferred none)) (fun r e => by cases e; exact ⟨_, hK', rfl⟩)
    have hbW : Below w.heap.size w W := hbw.trans (hB.mono hbw.size)
    refine ⟨.tuple #[.int .i64 0, .int .i64 0, .bool false], ?_, rfl, (((hbW.setCell (p := ⟨gC, 0, none⟩) (by show w.heap.size ≤ gC; omega) _).setCell (p := ⟨gP, 0, none⟩) (by show w.heap.size ≤ gP; omega) _).setCell (p := ⟨gB, 0, none⟩) (by show w.heap.size ≤ gB; omega) _).trans (belowK_b (w := w) (Nat.le_refl _) _ D' _ _ (by have := hbw.size; omega) hK' rfl rfl)⟩
    simp [results, Tryd.f9, go_sem, r3, r4, r5]
  case stop =>
    rintro D' cd pre W hD hpre ⟨rfl, q, x, y, rfl, hq, hx, hy, kC, kP, kB, hB⟩ hK
    have HE : Tr.pick hv ps (D : Int) = ((x.1 : Int), (y : Int), true) := by
      have := ring_first hpre hq hx
      unfold Tr.pick
      rw [HN.out.1, HN.out.2, Int.toNat_natCast, HP.out, this]
      dsimp only
      rw [hy]
    clear hcN hcD
    gi_wp2
    refine ⟨by simp, .inl ⟨_, _, rfl, run_takeDeferred hK, ?_⟩⟩
    rw [HE]
    have r3 := cell_kept kC.cell (grownBy_putObj' _ D' (.deferred none)) (fun r e => by cases e; exact ⟨_, hK, rfl⟩)
    have r4 := cell_kept kP.cell (grownBy_putObj' _ D' (.deferred none)) (fun r e => by cases e; exact ⟨_, hK, rfl⟩)
    have r5 := cell_kept kB.cell (grownBy_putObj' _ D' (.deferred none)) (fun r e => by cases e; exact ⟨_, hK, rfl⟩)
    refine ⟨.tuple #[.int .i64 (x.1 : Int), .int .i64 (y : Int), .bool true], ?_, rfl, hB.trans (belowK_b (w := w) (Nat.le_refl _) W D' _ _ (by have := hbw.size; omega) hK rfl rfl)⟩
    simp [results, Tryd.f9, go_sem, r3, r4, r5]
end Go.Proofs.YtiogfkhmigbgpaaDoor
