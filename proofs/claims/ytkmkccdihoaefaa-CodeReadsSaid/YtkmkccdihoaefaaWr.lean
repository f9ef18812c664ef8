/-
  The walks of package code's Writer: its bytes, what is added, numbers, texts, hashes.
-/
import Derived.Test.YtkmkccdihoaefaaMe
import Derived.Deep.RegionLaw
import Derived.Deep.QuietTactic
import Derived.BigQuiet
import Derived.StillTailTactics
import Derived.Laws.Pointers
import Derived.Laws.Rows
namespace Go.Proofs.Ytkmkccdihoaefaa
open Go.RowKit

/-- Block g is just the cells cs, of type t. -/
def Whole (w : World) (g : Nat) (t : TypeId) (cs : Array Value) : Prop := w.heap[g]? = some (.cells cs t (0, 0))

section
variable {w w' : World} {g : Nat} {t : TypeId} {cs : Array Value}
theorem Whole.lt (h : Whole w g t cs) : g < w.heap.size := (Array.getElem?_eq_some_iff.1 h).1
theorem Whole.cell (h : Whole w g t cs) (i : Nat) : w.cell? ⟨g, i, none⟩ = cs[i]? := cell_of_row w g i cs t (0, 0) h
theorem Whole.frozen (h : Whole w g t cs) (i : Nat) : w.frozen? ⟨g, i, none⟩ = false := frozen_of_row w g i cs t h
theorem Whole.keep (h : Whole w g t cs) (hk : w'.heap[g]? = w.heap[g]?) : Whole w' g t cs := hk.trans h
theorem Whole.new (w : World) (t : TypeId) (cs : Array Value) : Whole (w.alloc (.cells cs t)) w.heap.size t cs := heap_alloc_new w _
theorem Whole.alloc (h : Whole w g t cs) (o : Obj) : Whole (w.alloc o) g t cs := h.keep (Below.heap_alloc w o g h.lt)
theorem Whole.set (h : Whole w g t cs) (i : Nat) (u : Value) : Whole (w.setCell ⟨g, i, none⟩ u) g t (cs.setIfInBounds i u) := heap_setCell_same w g i cs t u h
theorem Whole.far (h : Whole w g t cs) {p : Addr} (hp : g ≠ p.block) (u : Value) : Whole (w.setCell p u) g t cs := h.keep (Below.heap_setCell w p u g hp)
theorem Whole.below {B : Nat} (h : Whole w g t cs) (hb : Below B w w') (hg : g < B) : Whole w' g t cs := h.keep (hb.block g hg)
theorem Whole.grown {row : Option Nat} (h : Whole w g t cs) (hb : w.grownBy w' row) (hg : some g ≠ row) : Whole w' g t cs := h.keep (hb.block g h.lt hg)
theorem Whole.ne {g' : Nat} {t' : TypeId} {cs' : Array Value} (h : Whole w g t cs) (h' : Whole w g' t' cs') (hne : t ≠ t') : g ≠ g' := by
  rintro rfl
  unfold Whole at h h'
  rw [h] at h'
  injection h' with h'
  injection h' with _ ht
  exact hne ht
theorem own_form {base e size n : Nat} {v : Value} {xs : List Value} (h : w.ownsRow base e size v n xs) : ∃ q cap, v = .slice q n cap := by
  rcases h.2 with ⟨rfl, h0⟩ | ⟨g', cap, _, rfl, _⟩
  · exact ⟨_, _, by rw [h0]⟩
  · exact ⟨_, _, rfl⟩
theorem own_ne {base e size n : Nat} {v : Value} {xs : List Value} (h : w.ownsRow base e size v n xs) (hg : Whole w g t cs) (hne : e ≠ t) : v.ownBlock ≠ some g := by
  rcases h.2 with ⟨rfl, _⟩ | ⟨g', cap, cur, rfl, _, hh, _⟩
  · simp [Value.ownBlock]
  · intro he
    have : g' = g := by simpa [Value.ownBlock] using he
    subst this
    exact Whole.ne (t := e) hh hg hne rfl
end

/-- The writer at block g, all of it from block B on, wrote l. -/
def Wr (w : World) (B g : Nat) (l : List Int) : Prop :=
  B ≤ g ∧ ((l = [] ∧ Whole w g 44 #[.pointer none, .int .i64 0]) ∨
    ∃ h v, B ≤ h ∧ Whole w g 44 #[.pointer (some ⟨h, 0, none⟩), .int .i64 l.length] ∧ Whole w h 71 #[v] ∧ w.ownsRow B 5 1 v l.length (nums l))

theorem bytes_none (g : Nat) (w : World) (h : w.cell? ⟨g, 0, none⟩ = some (.pointer none)) :
    Calls Try.prog 22 #[.pointer (some ⟨g, 0, none⟩)] w fun e w' => e = .returned (.slice none 0 0) ∧ w = w' := by
  go_enter Try.func22, Try.ntmps22
  go_wp2
  go_ret
  exact ⟨rfl, rfl⟩
theorem bytes_nil (w : World) :
    Calls Try.prog 22 #[.pointer none] w fun e w' => e = .returned (.slice none 0 0) ∧ w = w' := by
  go_enter Try.func22, Try.ntmps22
  go_wp2
  go_ret
  exact ⟨rfl, rfl⟩

theorem below_drew {w w1 : World} (h : Below w.drew.heap.size w.drew w1) : Below w.heap.size w w1 := ⟨h.os, h.tape, h.output, h.size, h.block⟩
set_option maxHeartbeats 1000000 in
theorem bytes_some (B g h : Nat) (v : Value) (l : List Int) (w : World) (h0 : w.cell? ⟨g, 0, none⟩ = some (.pointer (some ⟨h, 0, none⟩))) (h1 : w.cell? ⟨g, 1, none⟩ = some (.int .i64 l.length))
    (h2 : w.cell? ⟨h, 0, none⟩ = some v) (hown : w.ownsRow B 5 1 v l.length (nums l)) (hb : Cd.Byt l) (hl : l.length ≤ 1099511627776) :
    Calls Try.prog 22 #[.pointer (some ⟨g, 0, none⟩)] w (Made w.heap.size w l) := by
  obtain ⟨a, c, rfl, ht⟩ := Txt.own hown hb
  have hlc : l.length ≤ c := ht.2.1
  obtain ⟨n, hn⟩ : ∃ n, l.length = n := ⟨_, rfl⟩
  rw [hn] at h1 h2 ht hl hlc
  have HT := Lib.hid ht
  have HN := Lib.hid hn
  clear ht hown hn
  have hc0 : (n : Int) ≤ (c : Int) := by omega
  go_enter Try.func22, Try.ntmps22
  go_wp2
  go_still_tail 12, (by kernel_rfl)
  change wpList _ _ _ _ _ w.drew
  go_wp2_with fail
  refine (clone_any (fun x => B ≤ x) a n c l w.drew HT.out hl).mono ?_
  rintro e w1 ⟨v, rfl, hown, hbl⟩
  have HO := Lib.hid hown
  have HB := Lib.hid hbl
  clear hown hbl
  go_wp2
  go_ret
  exact ⟨v, rfl, HO.out, below_drew HB.out⟩

theorem bytes_any {B g : Nat} {l : List Int} {w : World} (h : Wr w B g l) (hb : Cd.Byt l) (hl : l.length ≤ 1099511627776) :
    Calls Try.prog 22 #[.pointer (some ⟨g, 0, none⟩)] w (Made w.heap.size w l) := by
  rcases h.2 with ⟨rfl, hw⟩ | ⟨k, v, _, hw, hp, hown⟩
  · refine (bytes_none g w (hw.cell 0)).mono ?_
    rintro e w' ⟨rfl, rfl⟩
    exact ⟨_, rfl, World.ownsRow_nil _ _ _ _, Below.refl _ _⟩
  · exact bytes_some B g k v l w (hw.cell 0) (hw.cell 1) (hp.cell 0) hown hb hl

theorem step_append_txt {P : Program} (w : World) {ops : Array Oper} {o : Oper} {a : Act} {K : Act → World → Prop} {Q : Exit → Act → World → Prop} {E : Prop} (hgd : o.guard = none) (s x : Operand) (t : TypeId)
    (ho : o.op = .call { callee := .builtin .append, args := #[s, x], argTypes := #[t, t] })
    (base : Nat) (e : TypeId) (i : TypeInfo) (z : Value) (bytes : Nat) (ht : P.underlying t = some (.slice e)) (hi : P.info? e = some i) (hz : i.zero = some z)
    (hsize : i.size = 1) (hby : i.bytes = bytes) (hzs : z.cells.size = 1)
    (v : Value) (n : Nat) (xs : List Value) (hs : a.eval s = v) (hown : w.ownsRow base e 1 v n xs)
    (S : Nat → Prop) (A : Option Addr) (m c : Nat) (l : List Int) (hx : a.eval x = .slice A m c) (hr : Txt w S A m c l)
    (h63 : n + m ≤ maxLen) (hbytes : (n + m) * bytes ≤ 140737488355328) (hbase : base ≤ w.heap.size)
    (h : ∀ v' w', w'.ownsRow base e 1 v' (n + m) (xs ++ nums l) → w.grownBy w' v.ownBlock → (v'.ownBlock = v.ownBlock ∨ v'.ownBlock = some w.heap.size) → K (a.put o.dst v') w') :
    if Region.wanted o (yielded ops a.tmps) = true then Oper.wp P o a w K Q else E := by
  have hw : Region.wanted o (yielded ops a.tmps) = true := by simp [Region.wanted, hgd]
  rw [if_pos hw]
  exact wp_append_txt w s x t ho base e i z bytes ht hi hz hsize hby hzs v n xs hs hown S A m c l hx hr h63 hbytes hbase h

theorem below_drewN {B : Nat} {a w : World} (h : Below B a w) (n : Nat) : Below B a (w.drewN n) := ⟨h.os, h.tape, h.output, h.size, h.block⟩
theorem own_ge {w : World} {base e size n : Nat} {v : Value} {xs : List Value} (h : w.ownsRow base e size v n xs) : ∀ k, v.ownBlock = some k → base ≤ k := fun k hk => (h.lt k hk).1
theorem own_set {w : World} {base e size n : Nat} {v : Value} {xs : List Value} (h : w.ownsRow base e size v n xs) {p : Addr} (hp : v.ownBlock ≠ some p.block) (u : Value) : (w.setCell p u).ownsRow base e size v n xs := by
  refine h.kept (row := some p.block) ⟨rfl, rfl, rfl, by simp [World.setCell], fun k _ hk => Below.heap_setCell w p u k (fun e => hk (by rw [e]))⟩ (Or.inr hp)
theorem add_end {w w1 : World} {B g h m n : Nat} {old v' : Value} {l t : List Int} (hg : B ≤ g) (hh : B ≤ h) (hl : l.length = m) (ht : t.length = n)
    (hw : Whole w1 g 44 #[.pointer (some ⟨h, 0, none⟩), .int .i64 m]) (hp : Whole w1 h 71 #[old]) (hown : w1.ownsRow B 5 1 v' (m + n) (nums l ++ nums t)) (hb : Below B w w1) :
    Wr ((w1.setCell ⟨h, 0, none⟩ v').setCell ⟨g, 1, none⟩ (.int .i64 ((m : Int) + (n : Int)))) B g (l ++ t) ∧ Below B w ((w1.setCell ⟨h, 0, none⟩ v').setCell ⟨g, 1, none⟩ (.int .i64 ((m : Int) + (n : Int)))) := by
  have hgh : g ≠ h := hw.ne hp (by decide)
  have hvg := own_ne hown hw (by decide)
  have hvh := own_ne hown hp (by decide)
  refine ⟨⟨hg, Or.inr ⟨h, v', hh, ?_, ?_, ?_⟩⟩, (hb.setCell hh _).setCell hg _⟩
  · have := (hw.far (p := ⟨h, 0, none⟩) hgh v').set 1 (.int .i64 ((m : Int) + (n : Int)))
    rw [List.length_append, hl, ht, Int.natCast_add]
    exact this
  · exact (hp.set 0 v').far (p := ⟨g, 1, none⟩) (Ne.symm hgh) _
  · rw [List.length_append, hl, ht, nums_append]
    exact own_set (own_set hown (p := ⟨h, 0, none⟩) hvh _) (p := ⟨g, 1, none⟩) hvg _

set_option maxHeartbeats 1000000 in
theorem add_some (B g h : Nat) (v : Value) (l t : List Int) (S : Nat → Prop) (a : Option Addr) (n c : Nat) (w : World) (hB : B ≤ w.heap.size) (hg : B ≤ g) (hh : B ≤ h)
    (hw : Whole w g 44 #[.pointer (some ⟨h, 0, none⟩), .int .i64 l.length]) (hp : Whole w h 71 #[v]) (hown : w.ownsRow B 5 1 v l.length (nums l))
    (ht : Txt w S a n c t) (hl : l.length ≤ 1099511627776) (hn : n ≤ 1099511627776) :
    Calls Try.prog 33 #[.pointer (some ⟨g, 0, none⟩), .slice a n c] w fun e w' => e = .returned (.tuple #[]) ∧ Wr w' B g (l ++ t) ∧ Below B w w' := by
  obtain ⟨i0, hi0, hz0, hz1, hz2⟩ := info_parts u8_info
  have HI := Lib.hid (And.intro hi0 (And.intro hz0 (And.intro hz1 hz2)))
  clear hi0 hz0 hz1 hz2
  have hgh : g ≠ h := hw.ne hp (by decide)
  have hvg := own_ne hown hw (by decide)
  have hvh := own_ne hown hp (by decide)
  obtain ⟨q, cap, rfl⟩ : ∃ q cap, v = .slice q l.length cap := by
    rcases hown.2 with ⟨rfl, h0⟩ | ⟨g', cap, _, rfl, _⟩
    · exact ⟨_, _, by rw [h0]⟩
    · exact ⟨_, _, rfl⟩
  have c0 := hw.cell 0
  have c1 := hw.cell 1
  have c2 := hp.cell 0
  have f1 := hw.frozen 1
  have f2 := hp.frozen 0
  simp only [List.getElem?_toArray, List.getElem?_cons_zero, List.getElem?_cons_succ] at c0 c1 c2
  have HW := Lib.hid hw
  have HP := Lib.hid hp
  have HO := Lib.hid hown
  have HT := Lib.hid ht
  obtain ⟨m, hm⟩ : ∃ m, l.length = m := ⟨_, rfl⟩
  rw [hm] at c1 c2 hl hvg hvh HO HP HW
  have HM := Lib.hid hm
  clear hw hp hown ht hm
  have hgt : decide ((m : Int) < (m : Int)) = false := by simp
  go_enter Try.func33, Try.ntmps33
  go_wp2
  go_quiet (fail)
  go_wp2
  go_region_law
    ((refine step_append_txt _ (by rfl) _ _ _ (by rfl) B 5 i0 (.int .u8 0) 1 Try.underlying25 HI.out.1 HI.out.2.1 HI.out.2.2.1 HI.out.2.2.2 rfl (.slice q m cap) m (nums l) (by rfl) (by exact HO.out) S a n c t (by rfl) (by exact HT.out) (by unfold maxLen; omega) (by omega) (by exact hB) ?_
      intro v' w1 hown1 hgrow _
      obtain ⟨q', cap', rfl⟩ := own_form hown1
      have k0 := Whole.grown (by exact HW.out) hgrow (Ne.symm hvg)
      have k2 := Whole.grown (by exact HP.out) hgrow (Ne.symm hvh)
      have d0 := k0.cell 0
      have d1 := k0.cell 1
      have d2 := k2.cell 0
      have e1 := k0.frozen 1
      have e2 := k2.frozen 0
      simp only [List.getElem?_toArray, List.getElem?_cons_zero, List.getElem?_cons_succ] at d0 d1 d2
      have K0 := Lib.hid k0
      have K2 := Lib.hid k2
      have HO1 := Lib.hid hown1
      have HG1 := Lib.hid hgrow
      clear k0 k2 hown1 hgrow))
  all_goals
    go_wp2
    go_end0
    exact ⟨rfl, add_end hg hh HM.out HT.out.1 K0.out K2.out HO1.out ((below_drewN (Below.refl _ _) _).grown HG1.out (by exact hB) (own_ge HO.out))⟩

end Go.Proofs.Ytkmkccdihoaefaa
