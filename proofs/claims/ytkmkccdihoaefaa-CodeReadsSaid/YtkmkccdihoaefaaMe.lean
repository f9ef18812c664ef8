/-
  Words for memory: bytes that lie in a slice, blocks that are known whole, and what stays of them; slices.Clone.
-/
import Derived.Test.YtkmkccdihoaefaaRows
import Derived.Test.YtkmkccdihoaefaaCd
import Derived.WalkKit
import Derived.WalkSpells
import Derived.WalkLawsBesides
import Derived.Below
import Derived.Maps.AppendAt
import Derived.OwnWalk
import Derived.Deep.AppendLies
import Derived.Laws.Cover3
import Derived.Laws.BytesArg
import Derived.Lib.Hide
namespace Go.Proofs.Ytkmkccdihoaefaa
open Go.RowKit

def nums (l : List Int) : List Value := l.map (Value.int .u8)
theorem nums_len (l : List Int) : (nums l).length = l.length := by simp [nums]
theorem nums_get (l : List Int) (k : Nat) (h : k < l.length) : (nums l)[k]? = some (.int .u8 (l.getD k 0)) := by simp [nums, h]
theorem nums_append (a b : List Int) : nums (a ++ b) = nums a ++ nums b := by simp [nums]
theorem nums_one (l : List Int) : ∀ u ∈ nums l, u.oneCell' = true := ints_oneCell .u8 l

/-- The slice a, n, c holds the bytes l; where it has any its block is one of S. -/
def Txt (w : World) (S : Nat → Prop) (a : Option Addr) (n c : Nat) (l : List Int) : Prop :=
  l.length = n ∧ n ≤ c ∧ Cd.Byt l ∧ (l = [] ∨ ∃ b off, a = some ⟨b, off, none⟩ ∧ S b ∧ b < w.heap.size ∧ ∀ k, k < n → w.cell? ⟨b, off + k, none⟩ = some (.int .u8 (l.getD k 0)))

section
variable {w w' : World} {S S' : Nat → Prop} {a : Option Addr} {n c : Nat} {l : List Int}
theorem Txt.keep (h : Txt w S a n c l) (hz : w.heap.size ≤ w'.heap.size) (hk : ∀ b, b < w.heap.size → S b → w'.heap[b]? = w.heap[b]?) : Txt w' S a n c l := by
  obtain ⟨h1, h2, h3, h4⟩ := h
  refine ⟨h1, h2, h3, ?_⟩
  rcases h4 with h | ⟨b, off, rfl, hs, hb, hc⟩
  · exact Or.inl h
  · refine Or.inr ⟨b, off, rfl, hs, by omega, fun k hk' => ?_⟩
    rw [← hc k hk']
    exact World.cell?_of_block (w := w) (hk b hb hs)
theorem Txt.weak (h : Txt w S a n c l) (hs : ∀ b, b < w.heap.size → S b → S' b) : Txt w S' a n c l := by
  obtain ⟨h1, h2, h3, h4⟩ := h
  refine ⟨h1, h2, h3, ?_⟩
  rcases h4 with h | ⟨b, off, rfl, hs', hb, hc⟩
  · exact Or.inl h
  · exact Or.inr ⟨b, off, rfl, hs b hb hs', hb, hc⟩
theorem Txt.old (h : Txt w S a n c l) : Txt w (fun b => b < w.heap.size) a n c l := h.weak fun _ hb _ => hb
theorem Txt.below {B : Nat} (h : Txt w S a n c l) (hb : Below B w w') (hs : ∀ b, b < w.heap.size → S b → b < B) : Txt w' S a n c l :=
  h.keep hb.size fun b hlt hS => hb.block b (hs b hlt hS)
theorem Txt.grown {row : Option Nat} (h : Txt w S a n c l) (hg : w.grownBy w' row) (hs : ∀ b, b < w.heap.size → S b → some b ≠ row) : Txt w' S a n c l :=
  h.keep hg.size fun b hlt hS => hg.block b hlt (hs b hlt hS)
theorem Txt.nil (w : World) (S : Nat → Prop) (a : Option Addr) (c : Nat) : Txt w S a 0 c [] := ⟨rfl, Nat.zero_le _, Cd.byt_nil, Or.inl rfl⟩
theorem Txt.cell (h : Txt w S a n c l) {k : Nat} (hk : k < n) : ∃ b off, a = some ⟨b, off, none⟩ ∧ S b ∧ b < w.heap.size ∧ w.cell? ⟨b, off + k, none⟩ = some (.int .u8 (l.getD k 0)) := by
  obtain ⟨h1, h2, h3, h4⟩ := h
  rcases h4 with h | ⟨b, off, rfl, hs, hb, hc⟩
  · subst h; simp at h1; omega
  · exact ⟨b, off, rfl, hs, hb, hc k hk⟩
theorem Txt.byte (h : Txt w S a n c l) {k : Nat} (hk : k < n) : 0 ≤ l.getD k 0 ∧ l.getD k 0 < 256 := by
  have hl : k < l.length := by rw [h.1]; exact hk
  have : l.getD k 0 = l[k] := by simp [hl]
  rw [this]
  exact h.2.2.1 _ (List.getElem_mem hl)
theorem Txt.take (h : Txt w S a n c l) (k : Nat) (hk : k ≤ n) : Txt w S a k c (l.take k) := by
  obtain ⟨h1, h2, h3, h4⟩ := h
  refine ⟨by simp; omega, by omega, Cd.byt_take h3 k, ?_⟩
  rcases h4 with h | ⟨b, off, rfl, hs, hb, hc⟩
  · subst h; exact Or.inl (by simp)
  · refine Or.inr ⟨b, off, rfl, hs, hb, fun j hj => ?_⟩
    rw [hc j (by omega)]
    have : j < l.length := by omega
    simp [this, hj]
theorem Txt.drop (h : Txt w S a n c l) (k : Nat) (hk : k ≤ n) : Txt w S (if c = k then a else a.map (·.add k)) (n - k) (c - k) (l.drop k) := by
  obtain ⟨h1, h2, h3, h4⟩ := h
  refine ⟨by simp; omega, by omega, Cd.byt_drop h3 k, ?_⟩
  by_cases he : l.drop k = []
  · exact Or.inl he
  rcases h4 with h | ⟨b, off, rfl, hs, hb, hc⟩
  · subst h; exact Or.inl (by simp)
  · have hl : k < l.length := by
      apply Decidable.byContradiction
      intro hh
      exact he (List.drop_eq_nil_of_le (by omega))
    refine Or.inr ⟨b, off + k, ?_, hs, hb, fun j hj => ?_⟩
    · rw [if_neg (by omega)]
      simp [Addr.add_lit]
    · rw [Nat.add_assoc, hc (k + j) (by omega)]
      have : k + j < l.length := by omega
      simp [this]
theorem Txt.own {base : Nat} {v : Value} (h : w.ownsRow base 5 1 v n (nums l)) (hb : Cd.Byt l) : ∃ a c, v = .slice a n c ∧ Txt w (base ≤ ·) a n c l := by
  have hn : l.length = n := by have := h.1; rw [nums_len] at this; omega
  by_cases h0 : n = 0
  · have hl : l = [] := List.eq_nil_of_length_eq_zero (by omega)
    subst h0
    rcases h.2 with ⟨rfl, _⟩ | ⟨g, cap, cur, rfl, _, _, _, _⟩
    · exact ⟨_, _, rfl, hn, Nat.zero_le _, hb, Or.inl hl⟩
    · exact ⟨_, _, rfl, hn, Nat.zero_le _, hb, Or.inl hl⟩
  · obtain ⟨g, cap, rfl, hb', hlt⟩ := h.form (by omega)
    have hcap : n ≤ cap := by
      rcases h.2 with ⟨h', _⟩ | ⟨g', cap', cur, h', _, _, hnc, _⟩
      · simp at h'
      · simp only [Value.slice.injEq] at h'
        omega
    refine ⟨_, _, rfl, hn, hcap, hb, Or.inr ⟨g, 0, rfl, hb', hlt, fun k hk => ?_⟩⟩
    rw [Nat.zero_add, h.cellAt k (by omega), nums_get _ _ (by omega)]
end

/-- append onto a row of the call's own, from whatever slice. -/
theorem run_append_txt {P : Program} (w : World) (base : Nat) (t ty e : TypeId) (i : TypeInfo) (z : Value) (bytes : Nat) (ht : P.underlying t = some (.slice e)) (hi : P.info? e = some i) (hz : i.zero = some z)
    (hsize : i.size = 1) (hby : i.bytes = bytes) (hzs : z.cells.size = 1)
    (v : Value) (n : Nat) (xs : List Value) (hown : w.ownsRow base e 1 v n xs) (S : Nat → Prop) (A : Option Addr) (m c : Nat) (l : List Int) (hr : Txt w S A m c l)
    (h63 : n + m ≤ maxLen) (hbytes : (n + m) * bytes ≤ 140737488355328) (hbase : base ≤ w.heap.size) :
    ∃ v' w', (Builtin.append_ #[t, t] ty #[v, .slice A m c]).run P w = .ok v' w' ∧ w'.ownsRow base e 1 v' (n + m) (xs ++ nums l) ∧ w.grownBy w' v.ownBlock ∧
      (v'.ownBlock = v.ownBlock ∨ v'.ownBlock = some w.heap.size) := by
  cases A with
  | none =>
    have hl : l = [] := by
      rcases hr.2.2.2 with h | ⟨b, off, h, _⟩
      · exact h
      · cases h
    subst hl
    have hm : m = 0 := hr.1.symm
    subst hm
    refine ⟨v, w, ?_, by simpa [nums] using hown, World.grownBy.refl w _, .inl rfl⟩
    rcases hown.2 with ⟨rfl, rfl⟩ | ⟨g, cap, cur, rfl, _, _, hnc, _⟩
    · simp [Builtin.append_, run_underlying ht, sizeOf, typeInfo, hi, Builtin.lenOf, Builtin.firstCells]
    · simp [Builtin.append_, run_underlying ht, sizeOf, typeInfo, hi, Builtin.lenOf, Builtin.firstCells, hnc, storeCells]
  | some ad =>
    have hcells : ∀ j u, (nums l)[j]? = some u → w.cell? (ad.add j) = some u := by
      intro j u hu
      have hj : j < l.length := by
        have := (List.getElem?_eq_some_iff.1 hu).1
        rwa [nums_len] at this
      rw [nums_get _ _ hj] at hu
      obtain ⟨b, off, h, _, _, hc⟩ := hr.cell (k := j) (by rw [← hr.1]; exact hj)
      injection h with h
      subst h
      rw [Addr.add_lit, hc, hu]
    obtain ⟨v', w', hrun, h2, h3, _, h5⟩ := run_append_own_at (P := P) w base t ty e i z 1 bytes ht hi hz hsize hby hzs (by omega) v n xs hown ad m c (nums l) (by rw [nums_len, hr.1]; omega) hcells (nums_one l) h63 hbytes hbase
    exact ⟨v', w', hrun, h2, h3, h5⟩

theorem wp_append_txt {P : Program} (w : World) {o : Oper} {a : Act} {K : Act → World → Prop} {Q : Exit → Act → World → Prop} (s x : Operand) (t : TypeId)
    (ho : o.op = .call { callee := .builtin .append, args := #[s, x], argTypes := #[t, t] })
    (base : Nat) (e : TypeId) (i : TypeInfo) (z : Value) (bytes : Nat) (ht : P.underlying t = some (.slice e)) (hi : P.info? e = some i) (hz : i.zero = some z)
    (hsize : i.size = 1) (hby : i.bytes = bytes) (hzs : z.cells.size = 1)
    (v : Value) (n : Nat) (xs : List Value) (hs : a.eval s = v) (hown : w.ownsRow base e 1 v n xs)
    (S : Nat → Prop) (A : Option Addr) (m c : Nat) (l : List Int) (hx : a.eval x = .slice A m c) (hr : Txt w S A m c l)
    (h63 : n + m ≤ maxLen) (hbytes : (n + m) * bytes ≤ 140737488355328) (hbase : base ≤ w.heap.size)
    (h : ∀ v' w', w'.ownsRow base e 1 v' (n + m) (xs ++ nums l) → w.grownBy w' v.ownBlock → (v'.ownBlock = v.ownBlock ∨ v'.ownBlock = some w.heap.size) → K (a.put o.dst v') w') : o.wp P a w K Q := by
  obtain ⟨v', w', hrun, h2, h3, h4⟩ := run_append_txt (P := P) w base t o.type e i z bytes ht hi hz hsize hby hzs v n xs hown S A m c l hr h63 hbytes hbase
  unfold Oper.wp execOp
  simp only [ho, resolve, invoke, builtin, Sem.run_bind, Sem.run_pure, Result.andThen_ok, List.map_toArray, List.map_cons, List.map_nil, hs, hx, hrun]
  exact h v' w' h2 h3 h4
theorem wpList_append_txt {P : Program} (w : World) {ops : Array Oper} {rest : List Oper} {o : Oper} {a : Act} {Q : Exit → Act → World → Prop} (hgd : o.guard = none) (s x : Operand) (t : TypeId)
    (ho : o.op = .call { callee := .builtin .append, args := #[s, x], argTypes := #[t, t] })
    (base : Nat) (e : TypeId) (i : TypeInfo) (z : Value) (bytes : Nat) (ht : P.underlying t = some (.slice e)) (hi : P.info? e = some i) (hz : i.zero = some z)
    (hsize : i.size = 1) (hby : i.bytes = bytes) (hzs : z.cells.size = 1)
    (v : Value) (n : Nat) (xs : List Value) (hs : a.eval s = v) (hown : w.ownsRow base e 1 v n xs)
    (S : Nat → Prop) (A : Option Addr) (m c : Nat) (l : List Int) (hx : a.eval x = .slice A m c) (hr : Txt w S A m c l)
    (h63 : n + m ≤ maxLen) (hbytes : (n + m) * bytes ≤ 140737488355328) (hbase : base ≤ w.heap.size)
    (h : ∀ v' w', w'.ownsRow base e 1 v' (n + m) (xs ++ nums l) → w.grownBy w' v.ownBlock → (v'.ownBlock = v.ownBlock ∨ v'.ownBlock = some w.heap.size) → wpList P ops Q rest (a.put o.dst v') w') : wpList P ops Q (o :: rest) a w :=
  wpList_plain hgd fun _ hK => wp_append_txt w s x t ho base e i z bytes ht hi hz hsize hby hzs v n xs hs hown S A m c l hx hr h63 hbytes hbase fun v' w' h2 h3 h4 => hK _ _ (h v' w' h2 h3 h4)

theorem eql_nil (a : Option Addr) (n c : Nat) (w : World) : (binOp .eql 25 (.slice a n c) (.slice none 0 0)).run Try.prog w = .ok (.bool a.isNone) w := by
  simp only [binOp]
  simp [run_equal_slice_nil w 25 _ a n c Try.underlying25]
theorem u8_info : (Try.prog.info? 5).map (fun i => (i.zero, i.size, i.bytes)) = some (some (.int .u8 0), 1, 1) := by kernel_rfl

/-- A slice of the call's own, from base on, that holds l. -/
def Made (base : Nat) (w : World) (l : List Int) (e : Ending) (w' : World) : Prop :=
  ∃ v, e = .returned v ∧ w'.ownsRow base 5 1 v l.length (nums l) ∧ Below w.heap.size w w'

set_option maxHeartbeats 400000 in
theorem clone_any (S : Nat → Prop) (a : Option Addr) (n c : Nat) (l : List Int) (w : World) (h : Txt w S a n c l) (hn : n ≤ 1099511627776) :
    Calls Try.prog 35 #[.slice a n c] w (Made w.heap.size w l) := by
  obtain ⟨i0, hi0, hz0, hz1, hz2⟩ := info_parts u8_info
  have HI := Lib.hid (And.intro hi0 (And.intro hz0 (And.intro hz1 hz2)))
  clear hi0 hz0 hz1 hz2
  have H := Lib.hid h
  clear h
  have hq := eql_nil a n c
  cases a with
  | none =>
    go_enter Try.func35, Try.ntmps35
    go_wp2
    go_ret
    have hl : l = [] := by
      rcases H.out.2.2.2 with h | ⟨b, off, h, _⟩
      · exact h
      · cases h
    subst hl
    exact ⟨_, rfl, World.ownsRow_nil _ _ _ _, Below.refl _ _⟩
  | some ad =>
    go_enter Try.func35, Try.ntmps35
    go_wp2_with (at_builtin; refine wpList_append_txt _ rfl (.tmp 5) (.tmp 6) 25 rfl w.heap.size 5 i0 (.int .u8 0) 1 Try.underlying25 HI.out.1 HI.out.2.1 HI.out.2.2.1 HI.out.2.2.2 rfl _ 0 [] rfl ?c1 S (some ad) n c l rfl ?c2 ?c3 ?c4 ?c5 ?_)
    case c1 => exact World.ownsRow_lit w #[] 0 (Nat.le_refl _) (by unfold maxLen; omega) rfl
    case c2 => exact H.out.keep (by simp) fun b hb _ => Below.heap_alloc _ _ _ hb
    case c3 => unfold maxLen; omega
    case c4 => omega
    case c5 => simp
    intro v' w' hown hg _
    have HO := Lib.hid hown
    have HG := Lib.hid hg
    clear hown hg
    go_wp2
    go_ret
    refine ⟨v', rfl, ?_, ?_⟩
    · have := HO.out
      rw [← H.out.1] at this
      exact this
    · refine ((Below.refl _ _).alloc (Nat.le_refl _) _).grown HG.out (by simp) ?_
      intro k hk
      simp [Value.ownBlock] at hk
      omega
end Go.Proofs.Ytkmkccdihoaefaa
