/-
  The plain mathematics of digests: words of 32 bits, the words of a block, its 64 steps, the state behind a text, what stands behind a text, the digest, codes and trees.
  Words for memory: bytes that lie in a slice, blocks that are known whole, what stays of them, and appends.
  Words of 32 bits as the machine has them, and the walks of RotateLeft32, turned, spreadA, spreadE, spread0, spread1.
  The walk of schedule: the words of a block.
  The walk of mixed: the state behind one more block.
  Plain facts on the state behind a text: it hangs on whole blocks alone; a text that is told part by part.
-/
import Derived.Test.YtiogfkhmigbgpaaDoorRows
import Derived.WalkKit
import Derived.WalkSpells
import Derived.WalkLawsBesides
import Derived.Below
import Derived.Maps.AppendAt
import Derived.OwnWalk
import Derived.Deep.AppendLies
import Derived.Laws.Cover3
import Derived.Laws.BytesArg
import Derived.Lib.Hide
import Derived.Laws.Pointers
import Derived.Laws.Rows
import Derived.Laws.CopyRow
import Derived.Laws.CopyOwn
import Derived.Laws.Tables
import Derived.Deep.MidRow
import Derived.Deep.QuietTactic
import Derived.BigQuiet
import Derived.StillTailTactics
namespace Go.Proofs.YtiogfkhmigbgpaaDoor
namespace Sm
def rK : List (BitVec 32) := [1116352408#32, 1899447441#32, 3049323471#32, 3921009573#32, 961987163#32, 1508970993#32, 2453635748#32, 2870763221#32, 3624381080#32, 310598401#32, 607225278#32, 1426881987#32, 1925078388#32, 2162078206#32, 2614888103#32, 3248222580#32, 3835390401#32, 4022224774#32, 264347078#32, 604807628#32, 770255983#32, 1249150122#32, 1555081692#32, 1996064986#32, 2554220882#32, 2821834349#32, 2952996808#32, 3210313671#32, 3336571891#32, 3584528711#32, 113926993#32, 338241895#32, 666307205#32, 773529912#32, 1294757372#32, 1396182291#32, 1695183700#32, 1986661051#32, 2177026350#32, 2456956037#32, 2730485921#32, 2820302411#32, 3259730800#32, 3345764771#32, 3516065817#32, 3600352804#32, 4094571909#32, 275423344#32, 430227734#32, 506948616#32, 659060556#32, 883997877#32, 958139571#32, 1322822218#32, 1537002063#32, 1747873779#32, 1955562222#32, 2024104815#32, 2227730452#32, 2361852424#32, 2428436474#32, 2756734187#32, 3204031479#32, 3329325298#32]
def rH : List (BitVec 32) := [1779033703#32, 3144134277#32, 1013904242#32, 2773480762#32, 1359893119#32, 2600822924#32, 528734635#32, 1541459225#32]
def sA (x : BitVec 32) : BitVec 32 := x.rotateRight 2 ^^^ x.rotateRight 13 ^^^ x.rotateRight 22
def sE (x : BitVec 32) : BitVec 32 := x.rotateRight 6 ^^^ x.rotateRight 11 ^^^ x.rotateRight 25
def s0 (x : BitVec 32) : BitVec 32 := x.rotateRight 7 ^^^ x.rotateRight 18 ^^^ x >>> 3
def s1 (x : BitVec 32) : BitVec 32 := x.rotateRight 17 ^^^ x.rotateRight 19 ^^^ x >>> 10
def wd (b : List Int) (t : Nat) : BitVec 32 := BitVec.ofInt 32 (b.getD (4 * t) 0 * 16777216 + b.getD (4 * t + 1) 0 * 65536 + b.getD (4 * t + 2) 0 * 256 + b.getD (4 * t + 3) 0)
def nextW (l : List (BitVec 32)) (t : Nat) : BitVec 32 := s1 (l.getD (t - 2) 0) + l.getD (t - 7) 0 + s0 (l.getD (t - 15) 0) + l.getD (t - 16) 0
def w16 (b : List Int) (k : Nat) : List (BitVec 32) := (List.range k).map (wd b)
def wTo (b : List Int) : Nat → List (BitVec 32)
  | 0 => w16 b 16
  | k + 1 => wTo b k ++ [nextW (wTo b k) (16 + k)]
def sched (b : List Int) : List (BitVec 32) := wTo b 48
structure St where
  a : BitVec 32
  b : BitVec 32
  c : BitVec 32
  d : BitVec 32
  e : BitVec 32
  f : BitVec 32
  g : BitVec 32
  h : BitVec 32
def St.l (s : St) : List (BitVec 32) := [s.a, s.b, s.c, s.d, s.e, s.f, s.g, s.h]
def ch (e f g : BitVec 32) : BitVec 32 := e &&& f ^^^ ~~~e &&& g
def mj (a b c : BitVec 32) : BitVec 32 := a &&& b ^^^ a &&& c ^^^ b &&& c
def t1 (s : St) (k w : BitVec 32) : BitVec 32 := s.h + sE s.e + ch s.e s.f s.g + k + w
def t2 (s : St) : BitVec 32 := sA s.a + mj s.a s.b s.c
def step (s : St) (k w : BitVec 32) : St := ⟨t1 s k w + t2 s, s.a, s.b, s.c, s.d + t1 s k w, s.e, s.f, s.g⟩
def stepsTo (s : St) (ws : List (BitVec 32)) : Nat → St
  | 0 => s
  | t + 1 => step (stepsTo s ws t) (rK.getD t 0) (ws.getD t 0)
def plus (s r : St) : St := ⟨s.a + r.a, s.b + r.b, s.c + r.c, s.d + r.d, s.e + r.e, s.f + r.f, s.g + r.g, s.h + r.h⟩
def mix (s : St) (b : List Int) : St := plus s (stepsTo s (sched b) 64)
def h0 : St := ⟨rH.getD 0 0, rH.getD 1 0, rH.getD 2 0, rH.getD 3 0, rH.getD 4 0, rH.getD 5 0, rH.getD 6 0, rH.getD 7 0⟩
def stTo (l : List Int) : Nat → St
  | 0 => h0
  | k + 1 => mix (stTo l k) ((l.drop (64 * k)).take 64)
def st (l : List Int) : St := stTo l (l.length / 64)
def byteOf (x : BitVec 32) (j : Nat) : Int := ((x.toNat / 2 ^ (24 - 8 * j) % 256 : Nat) : Int)
def bytesOf (ws : List (BitVec 32)) : List Int := ws.flatMap fun x => [byteOf x 0, byteOf x 1, byteOf x 2, byteOf x 3]
def noughts (n : Nat) : Nat := (119 - n % 64) % 64
def bits8 (n : Nat) : List Int := (List.range 8).map fun i => ((8 * n / 2 ^ (56 - 8 * i) % 256 : Nat) : Int)
def tail (n : Nat) : List Int := 128 :: (List.replicate (noughts n) 0 ++ bits8 n)
def padded (l : List Int) : List Int := l ++ tail l.length
def dig (l : List Int) : List Int := bytesOf (st (padded l)).l
end Sm
end Go.Proofs.YtiogfkhmigbgpaaDoor
namespace Go.Proofs.YtiogfkhmigbgpaaDoor
set_option maxRecDepth 20000
open Go.RowKit

def Byt (l : List Int) : Prop := ∀ x ∈ l, 0 ≤ x ∧ x < 256
theorem byt_append {a b : List Int} (ha : Byt a) (hb : Byt b) : Byt (a ++ b) := by
  intro x hx
  rcases List.mem_append.1 hx with h | h
  · exact ha x h
  · exact hb x h
theorem byt_left {a b : List Int} (h : Byt (a ++ b)) : Byt a := fun x hx => h x (List.mem_append_left _ hx)
theorem byt_right {a b : List Int} (h : Byt (a ++ b)) : Byt b := fun x hx => h x (List.mem_append_right _ hx)
theorem byt_drop {a : List Int} (h : Byt a) (k : Nat) : Byt (a.drop k) := fun x hx => h x (List.mem_of_mem_drop hx)
theorem byt_take {a : List Int} (h : Byt a) (k : Nat) : Byt (a.take k) := fun x hx => h x (List.mem_of_mem_take hx)
theorem byt_nil : Byt [] := fun x hx => by cases hx
theorem byt_cons {x : Int} {l : List Int} (h0 : 0 ≤ x) (h1 : x < 256) (h : Byt l) : Byt (x :: l) := by
  intro y hy
  rcases List.mem_cons.1 hy with h' | h'
  · subst h'; exact ⟨h0, h1⟩
  · exact h y h'
theorem byt_getD {l : List Int} (h : Byt l) (k : Nat) : 0 ≤ l.getD k 0 ∧ l.getD k 0 < 256 := by
  by_cases hl : k < l.length
  · have : l.getD k 0 = l[k] := by simp [hl]
    rw [this]
    exact h _ (List.getElem_mem hl)
  · have : l.getD k 0 = 0 := by simp [Nat.le_of_not_lt hl]
    rw [this]; omega
theorem byt_zeros (n : Nat) : Byt (List.replicate n 0) := by
  intro x hx
  have := (List.mem_replicate.1 hx).2
  omega

def nums (l : List Int) : List Value := l.map (Value.int .u8)
theorem nums_len (l : List Int) : (nums l).length = l.length := by simp [nums]
theorem nums_get (l : List Int) (k : Nat) (h : k < l.length) : (nums l)[k]? = some (.int .u8 (l.getD k 0)) := by simp [nums, h]
theorem nums_append (a b : List Int) : nums (a ++ b) = nums a ++ nums b := by simp [nums]
theorem nums_take (a : List Int) (n : Nat) : nums (a.take n) = (nums a).take n := by simp [nums]
theorem nums_drop (a : List Int) (n : Nat) : nums (a.drop n) = (nums a).drop n := by simp [nums]
theorem nums_one (l : List Int) : ∀ u ∈ nums l, u.oneCell' = true := ints_oneCell .u8 l
theorem all_nums (l : List Int) : (nums l).toArray.all (·.oneCell') = true := Array.all_eq_true_iff_forall_mem.2 (fun v hv => nums_one l v (by simpa using hv))

/-- The slice a, n, c holds the bytes l; where it has any its block is one of S. -/
def Txt (w : World) (S : Nat → Prop) (a : Option Addr) (n c : Nat) (l : List Int) : Prop :=
  l.length = n ∧ n ≤ c ∧ Byt l ∧ (l = [] ∨ ∃ b off, a = some ⟨b, off, none⟩ ∧ S b ∧ b < w.heap.size ∧ ∀ k, k < n → w.cell? ⟨b, off + k, none⟩ = some (.int .u8 (l.getD k 0)))

section
variable {w w' : World} {S S' : Nat → Prop} {a : Option Addr} {n c : Nat} {l : List Int}
theorem Txt.keep (h : Txt w S a n c l) (hz : w.heap.size ≤ w'.heap.size) (hk : ∀ b, b < w.heap.size → S b → w'.heap[b]? = w.heap[b]?) : Txt w' S a n c l := by
  obtain ⟨h1, h2, h3, h4⟩ := h
  refine ⟨h1, h2, h3, ?_⟩
  rcases h4 with h | ⟨b, off, rfl, hs, hb, hc⟩
  · exact Or.inl h
  · refine Or.inr ⟨b, off, rfl, hs, by omega, fun k hk' => ?_⟩
    rw [← hc k hk']
    exact World.cell?_of_block (w := w) (hk b hb hs)
theorem Txt.weak (h : Txt w S a n c l) (hs : ∀ b, b < w.heap.size → S b → S' b) : Txt w S' a n c l := by
  obtain ⟨h1, h2, h3, h4⟩ := h
  refine ⟨h1, h2, h3, ?_⟩
  rcases h4 with h | ⟨b, off, rfl, hs', hb, hc⟩
  · exact Or.inl h
  · exact Or.inr ⟨b, off, rfl, hs b hb hs', hb, hc⟩
theorem Txt.old (h : Txt w S a n c l) : Txt w (fun b => b < w.heap.size) a n c l := h.weak fun _ hb _ => hb
theorem Txt.below {B : Nat} (h : Txt w S a n c l) (hb : Below B w w') (hs : ∀ b, b < w.heap.size → S b → b < B) : Txt w' S a n c l :=
  h.keep hb.size fun b hlt hS => hb.block b (hs b hlt hS)
theorem Txt.grown {row : Option Nat} (h : Txt w S a n c l) (hg : w.grownBy w' row) (hs : ∀ b, b < w.heap.size → S b → some b ≠ row) : Txt w' S a n c l :=
  h.keep hg.size fun b hlt hS => hg.block b hlt (hs b hlt hS)
theorem Txt.nil (w : World) (S : Nat → Prop) (a : Option Addr) (c : Nat) : Txt w S a 0 c [] := ⟨rfl, Nat.zero_le _, byt_nil, Or.inl rfl⟩
theorem Txt.cell (h : Txt w S a n c l) {k : Nat} (hk : k < n) : ∃ b off, a = some ⟨b, off, none⟩ ∧ S b ∧ b < w.heap.size ∧ w.cell? ⟨b, off + k, none⟩ = some (.int .u8 (l.getD k 0)) := by
  obtain ⟨h1, h2, h3, h4⟩ := h
  rcases h4 with h | ⟨b, off, rfl, hs, hb, hc⟩
  · subst h; simp at h1; omega
  · exact ⟨b, off, rfl, hs, hb, hc k hk⟩
theorem Txt.cells (h : Txt w S a n c l) (hn : 0 < n) : ∃ b off, a = some ⟨b, off, none⟩ ∧ S b ∧ b < w.heap.size ∧ w.rangeAt b off (nums l) := by
  obtain ⟨h1, h2, h3, h4⟩ := h
  rcases h4 with h | ⟨b, off, rfl, hs, hb, hc⟩
  · subst h; simp at h1; omega
  · refine ⟨b, off, rfl, hs, hb, fun j v hv => ?_⟩
    have hj : j < l.length := by have := (List.getElem?_eq_some_iff.1 hv).1; rwa [nums_len] at this
    rw [nums_get _ _ hj] at hv
    rw [hc j (by omega)]; exact hv
theorem Txt.byte (h : Txt w S a n c l) (k : Nat) : 0 ≤ l.getD k 0 ∧ l.getD k 0 < 256 := byt_getD h.2.2.1 k
theorem Txt.take (h : Txt w S a n c l) (k : Nat) (hk : k ≤ n) : Txt w S a k c (l.take k) := by
  obtain ⟨h1, h2, h3, h4⟩ := h
  refine ⟨by simp; omega, by omega, byt_take h3 k, ?_⟩
  rcases h4 with h | ⟨b, off, rfl, hs, hb, hc⟩
  · subst h; exact Or.inl (by simp)
  · refine Or.inr ⟨b, off, rfl, hs, hb, fun j hj => ?_⟩
    rw [hc j (by omega)]
    have : j < l.length := by omega
    simp [this, hj]
theorem Txt.drop (h : Txt w S a n c l) (k : Nat) (hk : k ≤ n) : Txt w S (if c = k then a else a.map (·.add k)) (n - k) (c - k) (l.drop k) := by
  obtain ⟨h1, h2, h3, h4⟩ := h
  refine ⟨by simp; omega, by omega, byt_drop h3 k, ?_⟩
  by_cases he : l.drop k = []
  · exact Or.inl he
  rcases h4 with h | ⟨b, off, rfl, hs, hb, hc⟩
  · subst h; exact Or.inl (by simp)
  · have hl : k < l.length := by
      apply Decidable.byContradiction
      intro hh
      exact he (List.drop_eq_nil_of_le (by omega))
    refine Or.inr ⟨b, off + k, ?_, hs, hb, fun j hj => ?_⟩
    · rw [if_neg (by omega)]
      simp [Addr.add_lit]
    · rw [Nat.add_assoc, hc (k + j) (by omega)]
      have : k + j < l.length := by omega
      simp [this]
theorem Txt.own {base : Nat} {v : Value} (h : w.ownsRow base 5 1 v n (nums l)) (hb : Byt l) : ∃ a c, v = .slice a n c ∧ Txt w (base ≤ ·) a n c l := by
  have hn : l.length = n := by have := h.1; rw [nums_len] at this; omega
  by_cases h0 : n = 0
  · have hl : l = [] := List.eq_nil_of_length_eq_zero (by omega)
    subst h0
    rcases h.2 with ⟨rfl, _⟩ | ⟨g, cap, cur, rfl, _, _, _, _⟩
    · exact ⟨_, _, rfl, hn, Nat.zero_le _, hb, Or.inl hl⟩
    · exact ⟨_, _, rfl, hn, Nat.zero_le _, hb, Or.inl hl⟩
  · obtain ⟨g, cap, rfl, hb', hlt⟩ := h.form (by omega)
    have hcap : n ≤ cap := by
      rcases h.2 with ⟨h', _⟩ | ⟨g', cap', cur, h', _, _, hnc, _⟩
      · simp at h'
      · simp only [Value.slice.injEq] at h'
        omega
    refine ⟨_, _, rfl, hn, hcap, hb, Or.inr ⟨g, 0, rfl, hb', hlt, fun k hk => ?_⟩⟩
    rw [Nat.zero_add, h.cellAt k (by omega), nums_get _ _ (by omega)]
end

/-- append onto a row of the call's own, from whatever slice. -/
theorem run_append_txt {P : Program} (w : World) (base : Nat) (t ty e : TypeId) (i : TypeInfo) (z : Value) (bytes : Nat) (ht : P.underlying t = some (.slice e)) (hi : P.info? e = some i) (hz : i.zero = some z)
    (hsize : i.size = 1) (hby : i.bytes = bytes) (hzs : z.cells.size = 1)
    (v : Value) (n : Nat) (xs : List Value) (hown : w.ownsRow base e 1 v n xs) (S : Nat → Prop) (A : Option Addr) (m c : Nat) (l : List Int) (hr : Txt w S A m c l)
    (h63 : n + m ≤ maxLen) (hbytes : (n + m) * bytes ≤ 140737488355328) (hbase : base ≤ w.heap.size) :
    ∃ v' w', (Builtin.append_ #[t, t] ty #[v, .slice A m c]).run P w = .ok v' w' ∧ w'.ownsRow base e 1 v' (n + m) (xs ++ nums l) ∧ w.grownBy w' v.ownBlock ∧
      (v'.ownBlock = v.ownBlock ∨ v'.ownBlock = some w.heap.size) := by
  cases A with
  | none =>
    have hl : l = [] := by
      rcases hr.2.2.2 with h | ⟨b, off, h, _⟩
      · exact h
      · cases h
    subst hl
    have hm : m = 0 := hr.1.symm
    subst hm
    refine ⟨v, w, ?_, by simpa [nums] using hown, World.grownBy.refl w _, .inl rfl⟩
    rcases hown.2 with ⟨rfl, rfl⟩ | ⟨g, cap, cur, rfl, _, _, hnc, _⟩
    · simp [Builtin.append_, run_underlying ht, sizeOf, typeInfo, hi, Builtin.lenOf, Builtin.firstCells]
    · simp [Builtin.append_, run_underlying ht, sizeOf, typeInfo, hi, Builtin.lenOf, Builtin.firstCells, hnc, storeCells]
  | some ad =>
    have hcells : ∀ j u, (nums l)[j]? = some u → w.cell? (ad.add j) = some u := by
      intro j u hu
      have hj : j < l.length := by
        have := (List.getElem?_eq_some_iff.1 hu).1
        rwa [nums_len] at this
      rw [nums_get _ _ hj] at hu
      obtain ⟨b, off, h, _, _, hc⟩ := hr.cell (k := j) (by rw [← hr.1]; exact hj)
      injection h with h
      subst h
      rw [Addr.add_lit, hc, hu]
    obtain ⟨v', w', hrun, h2, h3, _, h5⟩ := run_append_own_at (P := P) w base t ty e i z 1 bytes ht hi hz hsize hby hzs (by omega) v n xs hown ad m c (nums l) (by rw [nums_len, hr.1]; omega) hcells (nums_one l) h63 hbytes hbase
    exact ⟨v', w', hrun, h2, h3, h5⟩

theorem wp_append_txt {P : Program} (w : World) {o : Oper} {a : Act} {K : Act → World → Prop} {Q : Exit → Act → World → Prop} (s x : Operand) (t : TypeId)
    (ho : o.op = .call { callee := .builtin .append, args := #[s, x], argTypes := #[t, t] })
    (base : Nat) (e : TypeId) (i : TypeInfo) (z : Value) (bytes : Nat) (ht : P.underlying t = some (.slice e)) (hi : P.info? e = some i) (hz : i.zero = some z)
    (hsize : i.size = 1) (hby : i.bytes = bytes) (hzs : z.cells.size = 1)
    (v : Value) (n : Nat) (xs : List Value) (hs : a.eval s = v) (hown : w.ownsRow base e 1 v n xs)
    (S : Nat → Prop) (A : Option Addr) (m c : Nat) (l : List Int) (hx : a.eval x = .slice A m c) (hr : Txt w S A m c l)
    (h63 : n + m ≤ maxLen) (hbytes : (n + m) * bytes ≤ 140737488355328) (hbase : base ≤ w.heap.size)
    (h : ∀ v' w', w'.ownsRow base e 1 v' (n + m) (xs ++ nums l) → w.grownBy w' v.ownBlock → (v'.ownBlock = v.ownBlock ∨ v'.ownBlock = some w.heap.size) → K (a.put o.dst v') w') : o.wp P a w K Q := by
  obtain ⟨v', w', hrun, h2, h3, h4⟩ := run_append_txt (P := P) w base t o.type e i z bytes ht hi hz hsize hby hzs v n xs hown S A m c l hr h63 hbytes hbase
  unfold Oper.wp execOp
  simp only [ho, resolve, invoke, builtin, Sem.run_bind, Sem.run_pure, Result.andThen_ok, List.map_toArray, List.map_cons, List.map_nil, hs, hx, hrun]
  exact h v' w' h2 h3 h4
theorem wpList_append_txt {P : Program} (w : World) {ops : Array Oper} {rest : List Oper} {o : Oper} {a : Act} {Q : Exit → Act → World → Prop} (hgd : o.guard = none) (s x : Operand) (t : TypeId)
    (ho : o.op = .call { callee := .builtin .append, args := #[s, x], argTypes := #[t, t] })
    (base : Nat) (e : TypeId) (i : TypeInfo) (z : Value) (bytes : Nat) (ht : P.underlying t = some (.slice e)) (hi : P.info? e = some i) (hz : i.zero = some z)
    (hsize : i.size = 1) (hby : i.bytes = bytes) (hzs : z.cells.size = 1)
    (v : Value) (n : Nat) (xs : List Value) (hs : a.eval s = v) (hown : w.ownsRow base e 1 v n xs)
    (S : Nat → Prop) (A : Option Addr) (m c : Nat) (l : List Int) (hx : a.eval x = .slice A m c) (hr : Txt w S A m c l)
    (h63 : n + m ≤ maxLen) (hbytes : (n + m) * bytes ≤ 140737488355328) (hbase : base ≤ w.heap.size)
    (h : ∀ v' w', w'.ownsRow base e 1 v' (n + m) (xs ++ nums l) → w.grownBy w' v.ownBlock → (v'.ownBlock = v.ownBlock ∨ v'.ownBlock = some w.heap.size) → wpList P ops Q rest (a.put o.dst v') w') : wpList P ops Q (o :: rest) a w :=
  wpList_plain hgd fun _ hK => wp_append_txt w s x t ho base e i z bytes ht hi hz hsize hby hzs v n xs hs hown S A m c l hx hr h63 hbytes hbase fun v' w' h2 h3 h4 => hK _ _ (h v' w' h2 h3 h4)
theorem u8_info : (Tryd.prog.info? 5).map (fun i => (i.zero, i.size, i.bytes)) = some (some (.int .u8 0), 1, 1) := by kernel_rfl

/-- Block g is just the cells cs, of type t. -/
def Whole (w : World) (g : Nat) (t : TypeId) (cs : Array Value) : Prop := w.heap[g]? = some (.cells cs t (0, 0))
section
variable {w w' : World} {g : Nat} {t : TypeId} {cs : Array Value}
theorem Whole.lt (h : Whole w g t cs) : g < w.heap.size := (Array.getElem?_eq_some_iff.1 h).1
theorem Whole.cell (h : Whole w g t cs) (i : Nat) : w.cell? ⟨g, i, none⟩ = cs[i]? := cell_of_row w g i cs t (0, 0) h
theorem Whole.frozen (h : Whole w g t cs) (i : Nat) : w.frozen? ⟨g, i, none⟩ = false := frozen_of_row w g i cs t h
theorem Whole.keep (h : Whole w g t cs) (hk : w'.heap[g]? = w.heap[g]?) : Whole w' g t cs := hk.trans h
theorem Whole.new (w : World) (t : TypeId) (cs : Array Value) : Whole (w.alloc (.cells cs t)) w.heap.size t cs := heap_alloc_new w _
theorem Whole.alloc (h : Whole w g t cs) (o : Obj) : Whole (w.alloc o) g t cs := h.keep (Below.heap_alloc w o g h.lt)
theorem Whole.set (h : Whole w g t cs) (i : Nat) (u : Value) : Whole (w.setCell ⟨g, i, none⟩ u) g t (cs.setIfInBounds i u) := heap_setCell_same w g i cs t u h
theorem Whole.far (h : Whole w g t cs) {p : Addr} (hp : g ≠ p.block) (u : Value) : Whole (w.setCell p u) g t cs := h.keep (Below.heap_setCell w p u g hp)
theorem Whole.below {B : Nat} (h : Whole w g t cs) (hb : Below B w w') (hg : g < B) : Whole w' g t cs := h.keep (hb.block g hg)
theorem Whole.grown {row : Option Nat} (h : Whole w g t cs) (hb : w.grownBy w' row) (hg : some g ≠ row) : Whole w' g t cs := h.keep (hb.block g h.lt hg)
theorem Whole.row (h : Whole w g t cs) (cs' : Array Value) : Whole (w.setRow g cs') g t cs' := setRow_heap w g cs cs' t (0, 0) h
theorem Whole.rowFar {b : Nat} (h : Whole w g t cs) (hg : g ≠ b) (cs' : Array Value) : Whole (w.setRow b cs') g t cs := (setRow_other w b g cs' hg).trans h
theorem Whole.range (h : Whole w g t cs) (o n : Nat) : w.rangeAt g o (cs.extract o (o + n)).toList := World.rangeAt_of_block h o n
end
theorem below_row {B g : Nat} {a w : World} (h : Below B a w) (hg : B ≤ g) (cs : Array Value) : Below B a (w.setRow g cs) :=
  h.trans ⟨rfl, rfl, rfl, by simp [World.setRow], fun k hk => setRow_other w g k cs (by omega)⟩
theorem below_alloc (w : World) (o : Obj) : Below w.heap.size w (w.alloc o) := (Below.refl _ _).alloc (Nat.le_refl _) _
theorem size_alloc (w : World) (o : Obj) : (w.alloc o).heap.size = w.heap.size + 1 := by simp
theorem below_drew {w w1 : World} (h : Below w.drew.heap.size w.drew w1) : Below w.heap.size w w1 := ⟨h.os, h.tape, h.output, h.size, h.block⟩
theorem below_drewN {B : Nat} {a w : World} (h : Below B a w) (n : Nat) : Below B a (w.drewN n) := ⟨h.os, h.tape, h.output, h.size, h.block⟩
theorem results_one_cell {fn : Func} {p : Tmp} {ty : TypeId} (h : fn.results = #[.cell p ty]) (tmps : Array Value) (P : Program) (w : World) (a : Addr) {v : Value} (ht : tmps.getD p undef = .pointer (some a)) (hv : (loadVar ty a).run P w = .ok v w) :
    (results fn tmps).run P w = .ok v w := by
  simp only [results, h]
  simp only [Array.getD_eq_getD_getElem?] at ht
  simp [ht, hv, asAddr]
/-- Bytes in the middle of a block that is known. -/
theorem txt_of_whole {w : World} {g : Nat} {t : TypeId} {l : List Int} (S : Nat → Prop) (hS : S g) (h : Whole w g t (nums l).toArray) (hb : Byt l) (k c : Nat) (hk : k ≤ l.length) (hc : k ≤ c) : Txt w S (some ⟨g, 0, none⟩) k c (l.take k) := by
  refine ⟨by simp; omega, hc, byt_take hb k, Or.inr ⟨g, 0, rfl, hS, h.lt, fun j hj => ?_⟩⟩
  rw [h.cell, Nat.zero_add, List.getElem?_toArray, nums_get _ _ (by omega)]
  have : j < l.length := by omega
  simp [this, hj]
end Go.Proofs.YtiogfkhmigbgpaaDoor
namespace Go.Proofs.YtiogfkhmigbgpaaDoor
set_option maxRecDepth 20000
open Go.RowKit
def num (x : BitVec 32) : Int := x.toNat
theorem num_lo (x : BitVec 32) : 0 ≤ num x := by simp [num]
theorem num_hi (x : BitVec 32) : num x ≤ 4294967295 := by have := x.isLt; unfold num; omega
theorem num_ofInt (x : BitVec 32) : BitVec.ofInt 32 (num x) = x := by simp [num]
theorem num_wrap (z : BitVec 32) : IntKind.u32.wrap (z.toNat : Int) = num z := by have := z.isLt; rw [IntKind.wrap_u32']; unfold num; omega
theorem num_xor (x y : BitVec 32) : bits .xor .u32 (num x) (num y) = num (x ^^^ y) := by
  simp only [bits, IntKind.bits, num_ofInt]; exact num_wrap _
theorem num_and (x y : BitVec 32) : bits .and .u32 (num x) (num y) = num (x &&& y) := by
  simp only [bits, IntKind.bits, num_ofInt]; exact num_wrap _
theorem num_or (x y : BitVec 32) : bits .or .u32 (num x) (num y) = num (x ||| y) := by
  simp only [bits, IntKind.bits, num_ofInt]; exact num_wrap _
theorem num_not (x : BitVec 32) : bits .xor .u32 4294967295 (num x) = num (~~~x) := by
  have h : (4294967295 : Int) = num (BitVec.allOnes 32) := by rfl
  rw [h, num_xor, BitVec.allOnes_xor]
theorem num_add (x y : BitVec 32) : (num x + num y) % 4294967296 = num (x + y) := by
  unfold num; rw [BitVec.toNat_add]; omega
theorem num_shr (x : BitVec 32) (n : Nat) : num x / 2 ^ n = num (x >>> n) := by
  unfold num; rw [BitVec.toNat_ushiftRight, Nat.shiftRight_eq_div_pow]; simp
theorem num_rot (x : BitVec 32) (n m : Nat) (h : n + m = 32) (h0 : 0 < n) (h1 : 0 < m) : bits .or .u32 (num x * 2 ^ m % 4294967296) (num x / 2 ^ n) = num (x.rotateRight n) := by
  have e1 : num x * 2 ^ m % 4294967296 = num (x <<< m) := by
    unfold num; rw [BitVec.toNat_shiftLeft, Nat.shiftLeft_eq]; simp
  rw [e1, num_shr, num_or, BitVec.or_comm]
  congr 1
  rw [BitVec.rotateRight_def]
  have : n % 32 = n := by omega
  rw [this]
  congr 2
  omega
theorem ret_u32 {a b : Int} (h : a = b) : Ending.returned (.int .u32 a) = .returned (.int .u32 b) := by rw [h]
/-- Words as cells. -/
def wds (l : List (BitVec 32)) : List Value := l.map fun x => .int .u32 (num x)
theorem wds_len (l : List (BitVec 32)) : (wds l).length = l.length := by simp [wds]
theorem wds_get (l : List (BitVec 32)) (k : Nat) (h : k < l.length) : (wds l)[k]? = some (.int .u32 (num (l.getD k 0))) := by simp [wds, h]
theorem wds_one (l : List (BitVec 32)) : ∀ u ∈ wds l, u.oneCell' = true := by
  intro u hu
  obtain ⟨x, _, rfl⟩ := List.mem_map.1 hu
  rfl
theorem all_wds (l : List (BitVec 32)) : (wds l).toArray.all (·.oneCell') = true := Array.all_eq_true_iff_forall_mem.2 (fun v hv => wds_one l v (by simpa using hv))

theorem rot2 (x : BitVec 32) (w : World) : Calls Tryd.prog 63 #[.int .u32 (num x), .int .i64 (-2)] w fun e w' => e = .returned (.int .u32 (num (x.rotateRight 2))) ∧ w = w' := by
  have h1 : bits .and .u64 (IntKind.u64.wrap (-2)) 31 = 30 := by decide +kernel
  go_enter Tryd.func63, Tryd.ntmps63
  go_wp2
  go_ret
  exact ⟨ret_u32 (num_rot x 2 30 (by omega) (by omega) (by omega)), rfl⟩
theorem turned2 (x : BitVec 32) (w : World) : Calls Tryd.prog 60 #[.int .u32 (num x), .int .i64 2] w fun e w' => e = .returned (.int .u32 (num (x.rotateRight 2))) ∧ w = w' := by
  go_enter Tryd.func60, Tryd.ntmps60
  go_wp2_with (go_at_call 63; refine (rot2 _ _).mono ?_; rintro e w' ⟨rfl, rfl⟩)
  go_ret
  exact ⟨rfl, rfl⟩
theorem rot13 (x : BitVec 32) (w : World) : Calls Tryd.prog 63 #[.int .u32 (num x), .int .i64 (-13)] w fun e w' => e = .returned (.int .u32 (num (x.rotateRight 13))) ∧ w = w' := by
  have h1 : bits .and .u64 (IntKind.u64.wrap (-13)) 31 = 19 := by decide +kernel
  go_enter Tryd.func63, Tryd.ntmps63
  go_wp2
  go_ret
  exact ⟨ret_u32 (num_rot x 13 19 (by omega) (by omega) (by omega)), rfl⟩
theorem turned13 (x : BitVec 32) (w : World) : Calls Tryd.prog 60 #[.int .u32 (num x), .int .i64 13] w fun e w' => e = .returned (.int .u32 (num (x.rotateRight 13))) ∧ w = w' := by
  go_enter Tryd.func60, Tryd.ntmps60
  go_wp2_with (go_at_call 63; refine (rot13 _ _).mono ?_; rintro e w' ⟨rfl, rfl⟩)
  go_ret
  exact ⟨rfl, rfl⟩
theorem rot22 (x : BitVec 32) (w : World) : Calls Tryd.prog 63 #[.int .u32 (num x), .int .i64 (-22)] w fun e w' => e = .returned (.int .u32 (num (x.rotateRight 22))) ∧ w = w' := by
  have h1 : bits .and .u64 (IntKind.u64.wrap (-22)) 31 = 10 := by decide +kernel
  go_enter Tryd.func63, Tryd.ntmps63
  go_wp2
  go_ret
  exact ⟨ret_u32 (num_rot x 22 10 (by omega) (by omega) (by omega)), rfl⟩
theorem turned22 (x : BitVec 32) (w : World) : Calls Tryd.prog 60 #[.int .u32 (num x), .int .i64 22] w fun e w' => e = .returned (.int .u32 (num (x.rotateRight 22))) ∧ w = w' := by
  go_enter Tryd.func60, Tryd.ntmps60
  go_wp2_with (go_at_call 63; refine (rot22 _ _).mono ?_; rintro e w' ⟨rfl, rfl⟩)
  go_ret
  exact ⟨rfl, rfl⟩
theorem rot6 (x : BitVec 32) (w : World) : Calls Tryd.prog 63 #[.int .u32 (num x), .int .i64 (-6)] w fun e w' => e = .returned (.int .u32 (num (x.rotateRight 6))) ∧ w = w' := by
  have h1 : bits .and .u64 (IntKind.u64.wrap (-6)) 31 = 26 := by decide +kernel
  go_enter Tryd.func63, Tryd.ntmps63
  go_wp2
  go_ret
  exact ⟨ret_u32 (num_rot x 6 26 (by omega) (by omega) (by omega)), rfl⟩
theorem turned6 (x : BitVec 32) (w : World) : Calls Tryd.prog 60 #[.int .u32 (num x), .int .i64 6] w fun e w' => e = .returned (.int .u32 (num (x.rotateRight 6))) ∧ w = w' := by
  go_enter Tryd.func60, Tryd.ntmps60
  go_wp2_with (go_at_call 63; refine (rot6 _ _).mono ?_; rintro e w' ⟨rfl, rfl⟩)
  go_ret
  exact ⟨rfl, rfl⟩
theorem rot11 (x : BitVec 32) (w : World) : Calls Tryd.prog 63 #[.int .u32 (num x), .int .i64 (-11)] w fun e w' => e = .returned (.int .u32 (num (x.rotateRight 11))) ∧ w = w' := by
  have h1 : bits .and .u64 (IntKind.u64.wrap (-11)) 31 = 21 := by decide +kernel
  go_enter Tryd.func63, Tryd.ntmps63
  go_wp2
  go_ret
  exact ⟨ret_u32 (num_rot x 11 21 (by omega) (by omega) (by omega)), rfl⟩
theorem turned11 (x : BitVec 32) (w : World) : Calls Tryd.prog 60 #[.int .u32 (num x), .int .i64 11] w fun e w' => e = .returned (.int .u32 (num (x.rotateRight 11))) ∧ w = w' := by
  go_enter Tryd.func60, Tryd.ntmps60
  go_wp2_with (go_at_call 63; refine (rot11 _ _).mono ?_; rintro e w' ⟨rfl, rfl⟩)
  go_ret
  exact ⟨rfl, rfl⟩
theorem rot25 (x : BitVec 32) (w : World) : Calls Tryd.prog 63 #[.int .u32 (num x), .int .i64 (-25)] w fun e w' => e = .returned (.int .u32 (num (x.rotateRight 25))) ∧ w = w' := by
  have h1 : bits .and .u64 (IntKind.u64.wrap (-25)) 31 = 7 := by decide +kernel
  go_enter Tryd.func63, Tryd.ntmps63
  go_wp2
  go_ret
  exact ⟨ret_u32 (num_rot x 25 7 (by omega) (by omega) (by omega)), rfl⟩
theorem turned25 (x : BitVec 32) (w : World) : Calls Tryd.prog 60 #[.int .u32 (num x), .int .i64 25] w fun e w' => e = .returned (.int .u32 (num (x.rotateRight 25))) ∧ w = w' := by
  go_enter Tryd.func60, Tryd.ntmps60
  go_wp2_with (go_at_call 63; refine (rot25 _ _).mono ?_; rintro e w' ⟨rfl, rfl⟩)
  go_ret
  exact ⟨rfl, rfl⟩
theorem rot7 (x : BitVec 32) (w : World) : Calls Tryd.prog 63 #[.int .u32 (num x), .int .i64 (-7)] w fun e w' => e = .returned (.int .u32 (num (x.rotateRight 7))) ∧ w = w' := by
  have h1 : bits .and .u64 (IntKind.u64.wrap (-7)) 31 = 25 := by decide +kernel
  go_enter Tryd.func63, Tryd.ntmps63
  go_wp2
  go_ret
  exact ⟨ret_u32 (num_rot x 7 25 (by omega) (by omega) (by omega)), rfl⟩
theorem turned7 (x : BitVec 32) (w : World) : Calls Tryd.prog 60 #[.int .u32 (num x), .int .i64 7] w fun e w' => e = .returned (.int .u32 (num (x.rotateRight 7))) ∧ w = w' := by
  go_enter Tryd.func60, Tryd.ntmps60
  go_wp2_with (go_at_call 63; refine (rot7 _ _).mono ?_; rintro e w' ⟨rfl, rfl⟩)
  go_ret
  exact ⟨rfl, rfl⟩
theorem rot18 (x : BitVec 32) (w : World) : Calls Tryd.prog 63 #[.int .u32 (num x), .int .i64 (-18)] w fun e w' => e = .returned (.int .u32 (num (x.rotateRight 18))) ∧ w = w' := by
  have h1 : bits .and .u64 (IntKind.u64.wrap (-18)) 31 = 14 := by decide +kernel
  go_enter Tryd.func63, Tryd.ntmps63
  go_wp2
  go_ret
  exact ⟨ret_u32 (num_rot x 18 14 (by omega) (by omega) (by omega)), rfl⟩
theorem turned18 (x : BitVec 32) (w : World) : Calls Tryd.prog 60 #[.int .u32 (num x), .int .i64 18] w fun e w' => e = .returned (.int .u32 (num (x.rotateRight 18))) ∧ w = w' := by
  go_enter Tryd.func60, Tryd.ntmps60
  go_wp2_with (go_at_call 63; refine (rot18 _ _).mono ?_; rintro e w' ⟨rfl, rfl⟩)
  go_ret
  exact ⟨rfl, rfl⟩
theorem rot17 (x : BitVec 32) (w : World) : Calls Tryd.prog 63 #[.int .u32 (num x), .int .i64 (-17)] w fun e w' => e = .returned (.int .u32 (num (x.rotateRight 17))) ∧ w = w' := by
  have h1 : bits .and .u64 (IntKind.u64.wrap (-17)) 31 = 15 := by decide +kernel
  go_enter Tryd.func63, Tryd.ntmps63
  go_wp2
  go_ret
  exact ⟨ret_u32 (num_rot x 17 15 (by omega) (by omega) (by omega)), rfl⟩
theorem turned17 (x : BitVec 32) (w : World) : Calls Tryd.prog 60 #[.int .u32 (num x), .int .i64 17] w fun e w' => e = .returned (.int .u32 (num (x.rotateRight 17))) ∧ w = w' := by
  go_enter Tryd.func60, Tryd.ntmps60
  go_wp2_with (go_at_call 63; refine (rot17 _ _).mono ?_; rintro e w' ⟨rfl, rfl⟩)
  go_ret
  exact ⟨rfl, rfl⟩
theorem rot19 (x : BitVec 32) (w : World) : Calls Tryd.prog 63 #[.int .u32 (num x), .int .i64 (-19)] w fun e w' => e = .returned (.int .u32 (num (x.rotateRight 19))) ∧ w = w' := by
  have h1 : bits .and .u64 (IntKind.u64.wrap (-19)) 31 = 13 := by decide +kernel
  go_enter Tryd.func63, Tryd.ntmps63
  go_wp2
  go_ret
  exact ⟨ret_u32 (num_rot x 19 13 (by omega) (by omega) (by omega)), rfl⟩
theorem turned19 (x : BitVec 32) (w : World) : Calls Tryd.prog 60 #[.int .u32 (num x), .int .i64 19] w fun e w' => e = .returned (.int .u32 (num (x.rotateRight 19))) ∧ w = w' := by
  go_enter Tryd.func60, Tryd.ntmps60
  go_wp2_with (go_at_call 63; refine (rot19 _ _).mono ?_; rintro e w' ⟨rfl, rfl⟩)
  go_ret
  exact ⟨rfl, rfl⟩
theorem spreadA_any (x : BitVec 32) (w : World) : Calls Tryd.prog 53 #[.int .u32 (num x)] w fun e w' => e = .returned (.int .u32 (num (Sm.sA x))) ∧ w = w' := by
  go_enter Tryd.func53, Tryd.ntmps53
  go_wp2_with fail
  refine (turned2 _ _).mono ?_; rintro e w' ⟨rfl, rfl⟩
  go_wp2_with fail
  refine (turned13 _ _).mono ?_; rintro e w' ⟨rfl, rfl⟩
  go_wp2_with fail
  refine (turned22 _ _).mono ?_; rintro e w' ⟨rfl, rfl⟩
  go_wp2
  go_ret
  exact ⟨ret_u32 (by rw [num_xor, num_xor]; rfl), rfl⟩
theorem spreadE_any (x : BitVec 32) (w : World) : Calls Tryd.prog 52 #[.int .u32 (num x)] w fun e w' => e = .returned (.int .u32 (num (Sm.sE x))) ∧ w = w' := by
  go_enter Tryd.func52, Tryd.ntmps52
  go_wp2_with fail
  refine (turned6 _ _).mono ?_; rintro e w' ⟨rfl, rfl⟩
  go_wp2_with fail
  refine (turned11 _ _).mono ?_; rintro e w' ⟨rfl, rfl⟩
  go_wp2_with fail
  refine (turned25 _ _).mono ?_; rintro e w' ⟨rfl, rfl⟩
  go_wp2
  go_ret
  exact ⟨ret_u32 (by rw [num_xor, num_xor]; rfl), rfl⟩
theorem spread0_any (x : BitVec 32) (w : World) : Calls Tryd.prog 59 #[.int .u32 (num x)] w fun e w' => e = .returned (.int .u32 (num (Sm.s0 x))) ∧ w = w' := by
  go_enter Tryd.func59, Tryd.ntmps59
  go_wp2_with fail
  refine (turned7 _ _).mono ?_; rintro e w' ⟨rfl, rfl⟩
  go_wp2_with fail
  refine (turned18 _ _).mono ?_; rintro e w' ⟨rfl, rfl⟩
  go_wp2
  go_ret
  exact ⟨ret_u32 (by rw [num_xor]; exact (congrArg _ (num_shr x 3)).trans (num_xor _ _)), rfl⟩
theorem spread1_any (x : BitVec 32) (w : World) : Calls Tryd.prog 58 #[.int .u32 (num x)] w fun e w' => e = .returned (.int .u32 (num (Sm.s1 x))) ∧ w = w' := by
  go_enter Tryd.func58, Tryd.ntmps58
  go_wp2_with fail
  refine (turned17 _ _).mono ?_; rintro e w' ⟨rfl, rfl⟩
  go_wp2_with fail
  refine (turned19 _ _).mono ?_; rintro e w' ⟨rfl, rfl⟩
  go_wp2
  go_ret
  exact ⟨ret_u32 (by rw [num_xor]; exact (congrArg _ (num_shr x 10)).trans (num_xor _ _)), rfl⟩
end Go.Proofs.YtiogfkhmigbgpaaDoor
namespace Go.Proofs.YtiogfkhmigbgpaaDoor
set_option maxRecDepth 20000
open Go.RowKit
def zeros32 (n : Nat) : List (BitVec 32) := List.replicate n 0
theorem num_wadd (x y : BitVec 32) : IntKind.u32.wrap (num x + num y) = num (x + y) := by rw [IntKind.wrap_u32']; exact num_add x y
theorem zero64 : #[Value.int IntKind.u32 0, Value.int IntKind.u32 0, Value.int IntKind.u32 0, Value.int IntKind.u32 0, Value.int IntKind.u32 0, Value.int IntKind.u32 0, Value.int IntKind.u32 0, Value.int IntKind.u32 0, Value.int IntKind.u32 0, Value.int IntKind.u32 0, Value.int IntKind.u32 0, Value.int IntKind.u32 0, Value.int IntKind.u32 0, Value.int IntKind.u32 0, Value.int IntKind.u32 0, Value.int IntKind.u32 0, Value.int IntKind.u32 0, Value.int IntKind.u32 0, Value.int IntKind.u32 0, Value.int IntKind.u32 0, Value.int IntKind.u32 0, Value.int IntKind.u32 0, Value.int IntKind.u32 0, Value.int IntKind.u32 0, Value.int IntKind.u32 0, Value.int IntKind.u32 0, Value.int IntKind.u32 0, Value.int IntKind.u32 0, Value.int IntKind.u32 0, Value.int IntKind.u32 0, Value.int IntKind.u32 0, Value.int IntKind.u32 0, Value.int IntKind.u32 0, Value.int IntKind.u32 0, Value.int IntKind.u32 0, Value.int IntKind.u32 0, Value.int IntKind.u32 0, Value.int IntKind.u32 0, Value.int IntKind.u32 0, Value.int IntKind.u32 0, Value.int IntKind.u32 0, Value.int IntKind.u32 0, Value.int IntKind.u32 0, Value.int IntKind.u32 0, Value.int IntKind.u32 0, Value.int IntKind.u32 0, Value.int IntKind.u32 0, Value.int IntKind.u32 0, Value.int IntKind.u32 0, Value.int IntKind.u32 0, Value.int IntKind.u32 0, Value.int IntKind.u32 0, Value.int IntKind.u32 0, Value.int IntKind.u32 0, Value.int IntKind.u32 0, Value.int IntKind.u32 0, Value.int IntKind.u32 0, Value.int IntKind.u32 0, Value.int IntKind.u32 0, Value.int IntKind.u32 0, Value.int IntKind.u32 0, Value.int IntKind.u32 0, Value.int IntKind.u32 0, Value.int IntKind.u32 0] = (wds (zeros32 64)).toArray := rfl
theorem word_or (x0 x1 x2 x3 : Int) (h0 : 0 ≤ x0 ∧ x0 < 256) (h1 : 0 ≤ x1 ∧ x1 < 256) (h2 : 0 ≤ x2 ∧ x2 < 256) (h3 : 0 ≤ x3 ∧ x3 < 256) :
    bits .or .u32 (bits .or .u32 (bits .or .u32 (IntKind.u32.wrap (IntKind.u32.wrap x0 * 16777216)) (IntKind.u32.wrap (IntKind.u32.wrap x1 * 65536))) (IntKind.u32.wrap (IntKind.u32.wrap x2 * 256))) (IntKind.u32.wrap x3) =
      num (BitVec.ofInt 32 (x0 * 16777216 + x1 * 65536 + x2 * 256 + x3)) := by
  obtain ⟨n0, rfl⟩ := Int.eq_ofNat_of_zero_le h0.1
  obtain ⟨n1, rfl⟩ := Int.eq_ofNat_of_zero_le h1.1
  obtain ⟨n2, rfl⟩ := Int.eq_ofNat_of_zero_le h2.1
  obtain ⟨n3, rfl⟩ := Int.eq_ofNat_of_zero_le h3.1
  simp only [IntKind.wrap_u32']
  rw [show ((n0 : Int) % 4294967296 * 16777216 % 4294967296) = ((n0 * 16777216 : Nat) : Int) by omega, show ((n1 : Int) % 4294967296 * 65536 % 4294967296) = ((n1 * 65536 : Nat) : Int) by omega,
    show ((n2 : Int) % 4294967296 * 256 % 4294967296) = ((n2 * 256 : Nat) : Int) by omega, show ((n3 : Int) % 4294967296) = ((n3 : Nat) : Int) by omega]
  rw [u32_or_nat _ _ (by omega) (by omega), nat_join 24 _ _ (by omega) (by omega), u32_or_nat _ _ (by omega) (by omega), nat_join 16 _ _ (by omega) (by omega), u32_or_nat _ _ (by omega) (by omega), nat_join 8 _ _ (by omega) (by omega)]
  have : (n0 : Int) * 16777216 + (n1 : Int) * 65536 + (n2 : Int) * 256 + (n3 : Int) = ((n0 * 16777216 + n1 * 65536 + n2 * 256 + n3 : Nat) : Int) := by omega
  rw [this]
  unfold num
  rw [BitVec.ofInt_natCast, BitVec.toNat_ofNat]
  congr 1
  omega
theorem wds_set (l r : List (BitVec 32)) (x y : BitVec 32) (k : Nat) (hk : l.length = k) : (wds (l ++ y :: r)).toArray.setIfInBounds k (.int .u32 (num x)) = (wds (l ++ x :: r)).toArray := by
  subst hk
  simp [wds]
theorem w16_len (b : List Int) (k : Nat) : (Sm.w16 b k).length = k := by simp [Sm.w16]
theorem w16_set (b : List Int) (k : Nat) (hk : k < 16) : (wds (Sm.w16 b k ++ zeros32 (64 - k))).toArray.setIfInBounds k (.int .u32 (num (Sm.wd b k))) = (wds (Sm.w16 b (k + 1) ++ zeros32 (64 - (k + 1)))).toArray := by
  have e : zeros32 (64 - k) = 0 :: zeros32 (64 - (k + 1)) := by
    unfold zeros32
    rw [show 64 - k = (64 - (k + 1)) + 1 by omega, List.replicate_succ]
  rw [e, wds_set _ _ _ _ _ (w16_len b k)]
  congr 2
  simp [Sm.w16, List.range_succ]
theorem wTo_len (b : List Int) (k : Nat) : (Sm.wTo b k).length = 16 + k := by
  induction k with
  | zero => exact w16_len b 16
  | succ k ih => simp [Sm.wTo, ih]; omega
theorem wTo_set (b : List Int) (k : Nat) (hk : k < 48) : (wds (Sm.wTo b k ++ zeros32 (48 - k))).toArray.setIfInBounds (16 + k) (.int .u32 (num (Sm.nextW (Sm.wTo b k) (16 + k)))) = (wds (Sm.wTo b (k + 1) ++ zeros32 (48 - (k + 1)))).toArray := by
  have e : zeros32 (48 - k) = 0 :: zeros32 (48 - (k + 1)) := by
    unfold zeros32
    rw [show 48 - k = (48 - (k + 1)) + 1 by omega, List.replicate_succ]
  rw [e, wds_set _ _ _ _ _ (wTo_len b k)]
  congr 2
  simp [Sm.wTo]
theorem undW64 : Tryd.prog.underlying 85 = some (.array 64 69) := by kernel_rfl
theorem infoW64 : (Tryd.prog.info? 85).map (·.size) = some 64 := by kernel_rfl
set_option maxHeartbeats 2000000 in
set_option maxRecDepth 100000 in
theorem schedule_any (b : List Int) (w : World) (hb : Byt b) (hl : b.length = 64) :
    Calls Tryd.prog 51 #[.agg (nums b).toArray] w fun e w' => e = .returned (.agg (wds (Sm.sched b)).toArray) ∧ Below w.heap.size w w' := by
  have HL := Lib.hid hl
  clear hl
  go_enter Tryd.func51, Tryd.ntmps51
  go_wp2
  rw [zero64]
  have kb := ((Whole.new w 71 (nums b).toArray).alloc (.cells (wds (zeros32 64)).toArray 85)).alloc (.cells (wds (zeros32 64)).toArray 85)
  have kr := (Whole.new (w.alloc (.cells (nums b).toArray 71)) 85 (wds (zeros32 64)).toArray).alloc (.cells (wds (zeros32 64)).toArray 85)
  have kw := Whole.new ((w.alloc (.cells (nums b).toArray 71)).alloc (.cells (wds (zeros32 64)).toArray 85)) 85 (wds (zeros32 64)).toArray
  have hb3 : Below w.heap.size w (((w.alloc (.cells (nums b).toArray 71)).alloc (.cells (wds (zeros32 64)).toArray 85)).alloc (.cells (wds (zeros32 64)).toArray 85)) := ((below_alloc w _).alloc (by simp) _).alloc (by simp; omega) _
  simp only [size_alloc] at kb kr kw
  generalize ((w.alloc (.cells (nums b).toArray 71)).alloc (.cells (wds (zeros32 64)).toArray 85)).alloc (.cells (wds (zeros32 64)).toArray 85) = w3 at *
  generalize hBe : w.heap.size = B at *
  have HBE := Lib.hid hBe
  clear hBe
  have H0 := Lib.hid (And.intro kb (And.intro kr (And.intro kw hb3)))
  clear kb kr kw hb3
  go_loopw [7] (fun i wr => ∃ k : Nat, k ≤ 16 ∧ i = .int .i64 k ∧ Hid (Whole wr B 71 (nums b).toArray ∧ Whole wr (B + 1) 85 (wds (zeros32 64)).toArray ∧ Whole wr (B + 1 + 1) 85 (wds (Sm.w16 b k ++ zeros32 (64 - k))).toArray ∧ Below B w wr)) (fun i _ => 16 - (intOf i).toNat)
  case atStart => exact ⟨0, Nat.zero_le _, rfl, Lib.hid H0.out⟩
  case round =>
    obtain ⟨k, hk, rfl, HB⟩ := hrel
    by_cases hlt : k < 16
    · have c0 : wr.cell? ⟨B, 4 * k, none⟩ = some (.int .u8 (b.getD (4 * k) 0)) := (HB.out.1.cell (4 * k)).trans (by rw [List.getElem?_toArray, nums_get _ _ (by have := HL.out; omega)])
      have c1 : wr.cell? ⟨B, 4 * k + 1, none⟩ = some (.int .u8 (b.getD (4 * k + 1) 0)) := (HB.out.1.cell (4 * k + 1)).trans (by rw [List.getElem?_toArray, nums_get _ _ (by have := HL.out; omega)])
      have c2 : wr.cell? ⟨B, 4 * k + 2, none⟩ = some (.int .u8 (b.getD (4 * k + 2) 0)) := (HB.out.1.cell (4 * k + 2)).trans (by rw [List.getElem?_toArray, nums_get _ _ (by have := HL.out; omega)])
      have c3 : wr.cell? ⟨B, 4 * k + 3, none⟩ = some (.int .u8 (b.getD (4 * k + 3) 0)) := (HB.out.1.cell (4 * k + 3)).trans (by rw [List.getElem?_toArray, nums_get _ _ (by have := HL.out; omega)])
      have d0 := byt_getD hb (4 * k)
      have d1 := byt_getD hb (4 * k + 1)
      have d2 := byt_getD hb (4 * k + 2)
      have d3 := byt_getD hb (4 * k + 3)
      have ev := word_or _ _ _ _ d0 d1 d2 d3
      rw [show BitVec.ofInt 32 (b.getD (4 * k) 0 * 16777216 + b.getD (4 * k + 1) 0 * 65536 + b.getD (4 * k + 2) 0 * 256 + b.getD (4 * k + 3) 0) = Sm.wd b k from rfl] at ev
      generalize b.getD (4 * k) 0 = x0 at *
      generalize b.getD (4 * k + 1) 0 = x1 at *
      generalize b.getD (4 * k + 2) 0 = x2 at *
      generalize b.getD (4 * k + 3) 0 = x3 at *
      have e0 : IntKind.i64.wrap (4 * (k : Int)) = 4 * (k : Int) := IntWalk.i64_in _ (by omega)
      have e1 : IntKind.i64.wrap (4 * (k : Int) + 1) = 4 * (k : Int) + 1 := IntWalk.i64_in _ (by omega)
      have e2 : IntKind.i64.wrap (4 * (k : Int) + 2) = 4 * (k : Int) + 2 := IntWalk.i64_in _ (by omega)
      have e3 : IntKind.i64.wrap (4 * (k : Int) + 3) = 4 * (k : Int) + 3 := IntWalk.i64_in _ (by omega)
      have n0 : (4 * (k : Int)).toNat = 4 * k := by omega
      have n1 : (4 * (k : Int) + 1).toNat = 4 * k + 1 := by omega
      have n2 : (4 * (k : Int) + 2).toNat = 4 * k + 2 := by omega
      have n3 : (4 * (k : Int) + 3).toNat = 4 * k + 3 := by omega
      have p0 : 0 ≤ 4 * (k : Int) := by omega
      have p1 : 0 ≤ 4 * (k : Int) + 1 := by omega
      have p2 : 0 ≤ 4 * (k : Int) + 2 := by omega
      have p3 : 0 ≤ 4 * (k : Int) + 3 := by omega
      have q0 : 4 * (k : Int) < 64 := by omega
      have q1 : 4 * (k : Int) + 1 < 64 := by omega
      have q2 : 4 * (k : Int) + 2 < 64 := by omega
      have q3 : 4 * (k : Int) + 3 < 64 := by omega
      have q4 : (k : Int) < 64 := by omega
      have cw : wr.cell? ⟨B + 1 + 1, k, none⟩ = some (.int .u32 (num ((Sm.w16 b k ++ zeros32 (64 - k)).getD k 0))) := (HB.out.2.2.1.cell k).trans (by rw [List.getElem?_toArray, wds_get _ _ (by simp [Sm.w16, zeros32]; omega)])
      have fw : wr.frozen? ⟨B + 1 + 1, k, none⟩ = false := HB.out.2.2.1.frozen k
      generalize (Sm.w16 b k ++ zeros32 (64 - k)).getD k 0 = old at *
      go_wp2
      go_still_tail 31, (by kernel_rfl)
      change wpList _ _ _ _ _ wr.drew
      go_wp2
      go_roundw
      case rel =>
        refine ⟨k + 1, by omega, by go_num, ?_⟩
        exact Lib.hid ⟨HB.out.1.far (p := ⟨B + 1 + 1, k, none⟩) (by show B ≠ B + 1 + 1; omega) _, HB.out.2.1.far (p := ⟨B + 1 + 1, k, none⟩) (by show B + 1 ≠ B + 1 + 1; omega) _,
          by rw [← w16_set b k hlt]; exact HB.out.2.2.1.set k _, HB.out.2.2.2.drew.setCell (by show B ≤ B + 1 + 1; omega) _⟩
      case measure => simp [intOf]; omega
    · have HK : Hid (k = 16) := Lib.hid (by omega)
      go_wp2
      clear H0
      go_loopw [42] (fun i wr => ∃ k : Nat, k ≤ 48 ∧ i = .int .i64 k ∧ Hid (Whole wr (B + 1) 85 (wds (zeros32 64)).toArray ∧ Whole wr (B + 1 + 1) 85 (wds (Sm.wTo b k ++ zeros32 (48 - k))).toArray ∧ Below B w wr)) (fun i _ => 48 - (intOf i).toNat)
      case atStart =>
        have := HB.out.2
        rw [HK.out] at this
        exact ⟨0, Nat.zero_le _, rfl, Lib.hid this⟩
      case round =>
        clear HB
        obtain ⟨k, hk, rfl, HB⟩ := hrel
        by_cases hlt : k < 48
        · have HC : ∀ j, j < 16 + k → wr.cell? ⟨B + 1 + 1, j, none⟩ = some (.int .u32 (num ((Sm.wTo b k).getD j 0))) := by
            intro j hj
            rw [HB.out.2.1.cell j, List.getElem?_toArray, wds_get _ _ (by simp [wTo_len, zeros32]; omega)]
            have : j < (Sm.wTo b k).length := by rw [wTo_len]; omega
            simp [List.getElem?_append_left this]
          have c0 := HC (14 + k) (by omega)
          have c1 := HC (9 + k) (by omega)
          have c2 := HC (1 + k) (by omega)
          have c3 := HC k (by omega)
          clear HC
          have ev : Sm.nextW (Sm.wTo b k) (16 + k) = Sm.s1 ((Sm.wTo b k).getD (14 + k) 0) + (Sm.wTo b k).getD (9 + k) 0 + Sm.s0 ((Sm.wTo b k).getD (1 + k) 0) + (Sm.wTo b k).getD k 0 := by
            unfold Sm.nextW
            rw [show 16 + k - 2 = 14 + k by omega, show 16 + k - 7 = 9 + k by omega, show 16 + k - 15 = 1 + k by omega, show 16 + k - 16 = k by omega]
          have EV := Lib.hid ev
          clear ev
          generalize (Sm.wTo b k).getD (14 + k) 0 = x0 at *
          generalize (Sm.wTo b k).getD (9 + k) 0 = x1 at *
          generalize (Sm.wTo b k).getD (1 + k) 0 = x2 at *
          generalize (Sm.wTo b k).getD k 0 = x3 at *
          have e0 : IntKind.i64.wrap (16 + (k : Int) - 2) = 16 + (k : Int) - 2 := IntWalk.i64_in _ (by omega)
          have e1 : IntKind.i64.wrap (16 + (k : Int) - 7) = 16 + (k : Int) - 7 := IntWalk.i64_in _ (by omega)
          have e2 : IntKind.i64.wrap (16 + (k : Int) - 15) = 16 + (k : Int) - 15 := IntWalk.i64_in _ (by omega)
          have e3 : IntKind.i64.wrap (16 + (k : Int) - 16) = 16 + (k : Int) - 16 := IntWalk.i64_in _ (by omega)
          have n0 : (16 + (k : Int) - 2).toNat = 14 + k := by omega
          have n1 : (16 + (k : Int) - 7).toNat = 9 + k := by omega
          have n2 : (16 + (k : Int) - 15).toNat = 1 + k := by omega
          have n3 : (16 + (k : Int) - 16).toNat = k := by omega
          have n4 : (16 + (k : Int)).toNat = 16 + k := by omega
          have p0 : 0 ≤ 16 + (k : Int) - 2 := by omega
          have p1 : 0 ≤ 16 + (k : Int) - 7 := by omega
          have p2 : 0 ≤ 16 + (k : Int) - 15 := by omega
          have p3 : 0 ≤ 16 + (k : Int) - 16 := by omega
          have p4 : 0 ≤ 16 + (k : Int) := by omega
          have r0 : 2 ≤ 16 + (k : Int) := by omega
          have r1 : 7 ≤ 16 + (k : Int) := by omega
          have r2 : 15 ≤ 16 + (k : Int) := by omega
          have r3 : 16 ≤ 16 + (k : Int) := by omega
          have q0 : 16 + (k : Int) - 2 < 64 := by omega
          have q1 : 16 + (k : Int) - 7 < 64 := by omega
          have q2 : 16 + (k : Int) - 15 < 64 := by omega
          have q3 : 16 + (k : Int) - 16 < 64 := by omega
          have q4 : 16 + (k : Int) < 64 := by omega
          have cw : wr.cell? ⟨B + 1 + 1, 16 + k, none⟩ = some (.int .u32 (num ((Sm.wTo b k ++ zeros32 (48 - k)).getD (16 + k) 0))) := (HB.out.2.1.cell (16 + k)).trans (by rw [List.getElem?_toArray, wds_get _ _ (by simp [wTo_len, zeros32]; omega)])
          have fw : wr.frozen? ⟨B + 1 + 1, 16 + k, none⟩ = false := HB.out.2.1.frozen (16 + k)
          generalize (Sm.wTo b k ++ zeros32 (48 - k)).getD (16 + k) 0 = old at *
          go_wp2
          go_still_tail 23, (by kernel_rfl)
          still_call ((spread1_any x0 _).mono fun e w'' h => ⟨h.1, h.2.symm⟩)
          repeat still_step
          still_call ((spread0_any x2 _).mono fun e w'' h => ⟨h.1, h.2.symm⟩)
          repeat still_step
          refine wpStill_nil ?_
          change wpList _ _ _ _ _ wr.drew
          clear e0 e1 e2 e3 n0 n1 n2 n3 n4 p0 p1 p2 p3 p4 q0 q1 q2 q3 q4 r0 r1 r2 r3 c0 c1 c2 c3
          simp only [num_wadd]
          go_wp2
          go_roundw
          case rel =>
            refine ⟨k + 1, by omega, by go_num, ?_⟩
            exact Lib.hid ⟨HB.out.1.far (p := ⟨B + 1 + 1, 16 + k, none⟩) (by show B + 1 ≠ B + 1 + 1; omega) _,
              by rw [← wTo_set b k hlt, EV.out]; exact HB.out.2.1.set (16 + k) _, HB.out.2.2.drew.setCell (by show B ≤ B + 1 + 1; omega) _⟩
          case measure => simp [intOf]; omega
        · obtain rfl : k = 48 := by omega
          have K1 : Hid (Whole wr (B + 1) 85 (wds (zeros32 64)).toArray) := Lib.hid HB.out.1
          have K2 : Hid (Whole wr (B + 1 + 1) 85 (wds (Sm.sched b)).toArray) := Lib.hid (by have := HB.out.2.1; simpa [zeros32, Sm.sched] using this)
          have hNs : (wds (Sm.sched b)).toArray.size = 64 := by simp [wds_len, Sm.sched, wTo_len]
          have hNa := all_wds (Sm.sched b)
          have HZ : Hid ((wds (zeros32 64)).toArray.size = 64) := Lib.hid (by simp [wds_len, zeros32])
          generalize hN : (wds (Sm.sched b)).toArray = N at *
          have HN := Lib.hid hN
          have HNS := Lib.hid hNs
          clear hN hNs
          go_wp2_with (first
            | ((with_reducible show wpList _ _ _ ((⟨_, Op.load 85 _, _, _, _, _⟩ : Oper) :: _) _ _); refine wpList_load_row rfl _ (.tmp 3) rfl (B + 1 + 1) rfl 85 N (0, 0) _ K2.out undW64 rfl (by rw [HNS.out]; exact infoW64) ?_)
            | ((with_reducible show wpList _ _ _ ((⟨_, Op.store 85 _ _, _, _, _, _⟩ : Oper) :: _) _ _); refine wpList_store_row rfl _ (.tmp 2) (.tmp 71) rfl (B + 1) N rfl rfl 85 _ K1.out (by rw [HNS.out]; exact infoW64) (by rw [HZ.out, HNS.out]) hNa ?_))
          refine bodyPost_ret (results_one_cell rfl _ _ _ _ rfl (run_loadVar_row _ _ _ _ _ (0, 0) _ (K1.out.row N) undW64 rfl (by rw [HNS.out]; exact infoW64))) rfl ?_
          exact ⟨by rw [HN.out], by rw [HBE.out]; exact below_row HB.out.2.2 (by omega) N⟩
end Go.Proofs.YtiogfkhmigbgpaaDoor
namespace Go.Proofs.YtiogfkhmigbgpaaDoor
set_option maxRecDepth 20000
open Go.RowKit
/-- The two tables, as they are laid. -/
def Roots (w : World) : Prop := (∃ t fr, w.heap[0]? = some (.cells (wds Sm.rH).toArray t fr)) ∧ ∃ t fr, w.heap[1]? = some (.cells (wds Sm.rK).toArray t fr)
theorem Roots.two {w : World} (h : Roots w) : 1 < w.heap.size := by obtain ⟨_, _, _, h⟩ := h; exact (Array.getElem?_eq_some_iff.1 h).1
theorem Roots.keep {w w' : World} (h : Roots w) (hk : ∀ b, b < 2 → w'.heap[b]? = w.heap[b]?) : Roots w' := by
  obtain ⟨⟨t, fr, h0⟩, ⟨t', fr', h1⟩⟩ := h
  exact ⟨⟨t, fr, (hk 0 (by omega)).trans h0⟩, ⟨t', fr', (hk 1 (by omega)).trans h1⟩⟩
theorem Roots.below {w w' : World} {B : Nat} (h : Roots w) (hb : Below B w w') (hB : 2 ≤ B) : Roots w' := h.keep fun b hlt => hb.block b (by omega)
theorem Roots.alloc {w : World} (h : Roots w) (o : Obj) : Roots (w.alloc o) := h.below (below_alloc w o) h.two
theorem Roots.grown {w w' : World} {row : Option Nat} (h : Roots w) (hg : w.grownBy w' row) (hr : ∀ b, row = some b → 2 ≤ b) : Roots w' := h.keep fun b hlt => hg.block b (by have := h.two; omega) (fun e => by have := hr b e.symm; omega)
theorem Roots.k {w : World} (h : Roots w) (t : Nat) (ht : t < 64) : w.cell? ⟨1, t, none⟩ = some (.int .u32 (num (Sm.rK.getD t 0))) := by
  obtain ⟨_, ⟨t', fr', h1⟩⟩ := h
  rw [cell_of_row w 1 t _ _ _ h1, List.getElem?_toArray, wds_get _ _ (by show t < 64; exact ht)]
theorem undW8 : Tryd.prog.underlying 70 = some (.array 8 69) := by kernel_rfl
theorem infoW8 : (Tryd.prog.info? 70).map (·.size) = some 8 := by kernel_rfl
theorem undB64 : Tryd.prog.underlying 71 = some (.array 64 5) := by kernel_rfl
theorem infoB64 : (Tryd.prog.info? 71).map (·.size) = some 64 := by kernel_rfl
theorem zero8 : #[Value.int IntKind.u32 0, Value.int IntKind.u32 0, Value.int IntKind.u32 0, Value.int IntKind.u32 0, Value.int IntKind.u32 0, Value.int IntKind.u32 0, Value.int IntKind.u32 0, Value.int IntKind.u32 0] = (wds (zeros32 8)).toArray := rfl
theorem st_cells (s : Sm.St) : (wds s.l).toArray = #[.int .u32 (num s.a), .int .u32 (num s.b), .int .u32 (num s.c), .int .u32 (num s.d), .int .u32 (num s.e), .int .u32 (num s.f), .int .u32 (num s.g), .int .u32 (num s.h)] := rfl
/-- Eight slots that hold a state. -/
def StAt (s : Sm.St) (va vb vc vd ve vf vg vh : Value) : Prop := va = .int .u32 (num s.a) ∧ vb = .int .u32 (num s.b) ∧ vc = .int .u32 (num s.c) ∧ vd = .int .u32 (num s.d) ∧ ve = .int .u32 (num s.e) ∧ vf = .int .u32 (num s.f) ∧ vg = .int .u32 (num s.g) ∧ vh = .int .u32 (num s.h)
theorem num_t1 (h e c k x : BitVec 32) : ((num h + num e + num c + num k) % 4294967296 + num x) % 4294967296 = num (h + e + c + k + x) := by
  rw [← num_add, ← num_add, ← num_add, ← num_add]; omega
theorem val_u32 {a b : Int} (h : a = b) : Value.int .u32 a = .int .u32 b := by rw [h]
theorem part_u32 {x : List (BitVec 32)} {i : Nat} (h : i < x.length) (w : World) : (part 69 (wds x).toArray i).run Tryd.prog w = .ok (.int .u32 (num (x.getD i 0))) w := by
  have ha : (isAgg 69).run Tryd.prog w = .ok false w := by
    unfold isAgg
    rw [Sem.run_bind, run_underlying Tryd.underlying69 w]
    rfl
  unfold part
  rw [Sem.run_bind, ha]
  simp only [Result.andThen_ok, Bool.false_eq_true, if_false, List.getElem?_toArray, wds_get x i h]
  rfl
theorem sz_u32 (w : World) : (sizeOf 69).run Tryd.prog w = .ok 1 w := by
  have h : (Tryd.prog.info? 69).map (·.size) = some 1 := by kernel_rfl
  cases hq : Tryd.prog.info? 69 with
  | none => rw [hq] at h; cases h
  | some i =>
    rw [hq] at h
    simp only [Option.map_some, Option.some.injEq] at h
    simp [sizeOf, typeInfo, hq, h]
theorem index_w8 (l : List (BitVec 32)) (hl : l.length = 8) (k : Nat) (hk : k < 8) (w : World) : (Instr.index 70 (.agg (wds l).toArray) (.int .i64 (k : Int))).run Tryd.prog w = .ok (.int .u32 (num (l.getD k 0))) w := by
  have h0 : (0 : Int) ≤ (k : Int) ∧ (k : Int) < 8 := by omega
  simp only [Instr.index, asIntOf, Sem.run_bind, Sem.run_pure, Result.andThen_ok, run_underlying undW8]
  rw [if_pos (by exact h0)]
  simp only [Sem.run_bind, sz_u32, Result.andThen_ok, Int.toNat_natCast, Nat.mul_one]
  exact part_u32 (by omega) w
theorem mix_get (a c : List (BitVec 32)) (k : Nat) (ha : a.length = 8) (hk : k < 8) : (a.take k ++ c.drop k).getD k 0 = c.getD k 0 := by
  have : (a.take k).length = k := by simp; omega
  simp [List.getElem?_append_right, this]
theorem mix_set (s r : Sm.St) (k : Nat) (hk : k < 8) : (wds ((Sm.plus s r).l.take k ++ s.l.drop k)).toArray.setIfInBounds k (.int .u32 (num (s.l.getD k 0 + r.l.getD k 0))) = (wds ((Sm.plus s r).l.take (k + 1) ++ s.l.drop (k + 1))).toArray := by
  match k, hk with
  | 0, _ => rfl
  | 1, _ => rfl
  | 2, _ => rfl
  | 3, _ => rfl
  | 4, _ => rfl
  | 5, _ => rfl
  | 6, _ => rfl
  | 7, _ => rfl
theorem sched_len (b : List Int) : (Sm.sched b).length = 64 := by rw [Sm.sched, wTo_len]
set_option maxHeartbeats 2000000 in
set_option maxRecDepth 100000 in
theorem mixed_any (s : Sm.St) (b : List Int) (w : World) (hR : Roots w) (hb : Byt b) (hl : b.length = 64) :
    Calls Tryd.prog 46 #[.agg (wds s.l).toArray, .agg (nums b).toArray] w fun e w' => e = .returned (.agg (wds (Sm.mix s b).l).toArray) ∧ Below w.heap.size w w' := by
  have HL := Lib.hid hl
  have HR := Lib.hid hR
  clear hl hR
  have hNs : (nums b).toArray.size = 64 := by simp [nums_len]; exact HL.out
  have HNS := Lib.hid hNs
  clear hNs
  go_enter Tryd.func46, Tryd.ntmps46
  go_wp2_with (first
    | ((with_reducible show wpList _ _ _ ((⟨_, Op.load 71 _, _, _, _, _⟩ : Oper) :: _) _ _); refine wpList_load_row rfl _ (.tmp 3) rfl (w.heap.size + 1) rfl 71 (nums b).toArray (0, 0) _ ?k1 undB64 rfl (by rw [HNS.out]; exact infoB64) ?_)
    | fail)
  case k1 =>
    have k1 := (Whole.new (w.alloc (.cells (wds s.l).toArray 70)) 71 (nums b).toArray).alloc (.cells #[Value.int IntKind.u32 0, Value.int IntKind.u32 0, Value.int IntKind.u32 0, Value.int IntKind.u32 0, Value.int IntKind.u32 0, Value.int IntKind.u32 0, Value.int IntKind.u32 0, Value.int IntKind.u32 0] 70)
    simp only [size_alloc] at k1
    exact k1
  rw [zero8]
  have k0 := ((Whole.new w 70 (wds s.l).toArray).alloc (.cells (nums b).toArray 71)).alloc (.cells (wds (zeros32 8)).toArray 70)
  have kr := Whole.new ((w.alloc (.cells (wds s.l).toArray 70)).alloc (.cells (nums b).toArray 71)) 70 (wds (zeros32 8)).toArray
  have hr3 := ((HR.out.alloc (.cells (wds s.l).toArray 70)).alloc (.cells (nums b).toArray 71)).alloc (.cells (wds (zeros32 8)).toArray 70)
  have hb3 : Below w.heap.size w (((w.alloc (.cells (wds s.l).toArray 70)).alloc (.cells (nums b).toArray 71)).alloc (.cells (wds (zeros32 8)).toArray 70)) := ((below_alloc w _).alloc (by simp) _).alloc (by simp; omega) _
  simp only [size_alloc] at k0 kr
  generalize hw3 : ((w.alloc (.cells (wds s.l).toArray 70)).alloc (.cells (nums b).toArray 71)).alloc (.cells (wds (zeros32 8)).toArray 70) = w3 at *
  have hz3 : w.heap.size + 1 + 1 + 1 = w3.heap.size := by rw [← hw3]; simp
  clear hw3
  refine (schedule_any b w3 hb HL.out).mono ?_
  rintro e w4 ⟨rfl, hb4⟩
  have k04 := k0.below hb4 (by omega)
  have kr4 := kr.below hb4 (by omega)
  have hr4 := hr3.below hb4 hr3.two
  have hb14 : Below w.heap.size w w4 := hb3.trans (hb4.mono (by omega))
  have hz4 := hb4.size
  generalize hBe : w.heap.size = B at *
  have HBE := Lib.hid hBe
  have hB2 : 2 ≤ B := by rw [← hBe]; exact HR.out.two
  have H4 := Lib.hid (And.intro k04 (And.intro kr4 (And.intro hr4 hb14)))
  have hW : B + 1 + 1 < w4.heap.size := by omega
  clear k0 kr hr3 hb3 k04 kr4 hr4 hb14 hb4 hBe hz3 hz4 HR
  have hNs : (wds (Sm.sched b)).toArray.size = 64 := by simp [wds_len, sched_len]
  have hNa := all_wds (Sm.sched b)
  have HN2 := Lib.hid hNs
  clear hNs
  go_wp2_with ((with_reducible show wpList _ _ _ ((⟨_, Op.store 85 _ _, _, _, _, _⟩ : Oper) :: _) _ _); refine wpList_store_row rfl _ (.tmp 5) (.tmp 22) rfl w4.heap.size _ rfl rfl 85 (wds (zeros32 64)).toArray ?k2 (by rw [HN2.out]; exact infoW64) (by rw [HN2.out]; simp [wds_len, zeros32]) hNa ?_)
  case k2 => exact Whole.new _ _ _
  have k0 := (H4.out.1.alloc (.cells #[Value.int IntKind.u32 0, Value.int IntKind.u32 0, Value.int IntKind.u32 0, Value.int IntKind.u32 0, Value.int IntKind.u32 0, Value.int IntKind.u32 0, Value.int IntKind.u32 0, Value.int IntKind.u32 0, Value.int IntKind.u32 0, Value.int IntKind.u32 0, Value.int IntKind.u32 0, Value.int IntKind.u32 0, Value.int IntKind.u32 0, Value.int IntKind.u32 0, Value.int IntKind.u32 0, Value.int IntKind.u32 0, Value.int IntKind.u32 0, Value.int IntKind.u32 0, Value.int IntKind.u32 0, Value.int IntKind.u32 0, Value.int IntKind.u32 0, Value.int IntKind.u32 0, Value.int IntKind.u32 0, Value.int IntKind.u32 0, Value.int IntKind.u32 0, Value.int IntKind.u32 0, Value.int IntKind.u32 0, Value.int IntKind.u32 0, Value.int IntKind.u32 0, Value.int IntKind.u32 0, Value.int IntKind.u32 0, Value.int IntKind.u32 0, Value.int IntKind.u32 0, Value.int IntKind.u32 0, Value.int IntKind.u32 0, Value.int IntKind.u32 0, Value.int IntKind.u32 0, Value.int IntKind.u32 0, Value.int IntKind.u32 0, Value.int IntKind.u32 0, Value.int IntKind.u32 0, Value.int IntKind.u32 0, Value.int IntKind.u32 0, Value.int IntKind.u32 0, Value.int IntKind.u32 0, Value.int IntKind.u32 0, Value.int IntKind.u32 0, Value.int IntKind.u32 0, Value.int IntKind.u32 0, Value.int IntKind.u32 0, Value.int IntKind.u32 0, Value.int IntKind.u32 0, Value.int IntKind.u32 0, Value.int IntKind.u32 0, Value.int IntKind.u32 0, Value.int IntKind.u32 0, Value.int IntKind.u32 0, Value.int IntKind.u32 0, Value.int IntKind.u32 0, Value.int IntKind.u32 0, Value.int IntKind.u32 0, Value.int IntKind.u32 0, Value.int IntKind.u32 0, Value.int IntKind.u32 0] 85)).rowFar (b := w4.heap.size) (by omega) (wds (Sm.sched b)).toArray
  have kr := (H4.out.2.1.alloc (.cells #[Value.int IntKind.u32 0, Value.int IntKind.u32 0, Value.int IntKind.u32 0, Value.int IntKind.u32 0, Value.int IntKind.u32 0, Value.int IntKind.u32 0, Value.int IntKind.u32 0, Value.int IntKind.u32 0, Value.int IntKind.u32 0, Value.int IntKind.u32 0, Value.int IntKind.u32 0, Value.int IntKind.u32 0, Value.int IntKind.u32 0, Value.int IntKind.u32 0, Value.int IntKind.u32 0, Value.int IntKind.u32 0, Value.int IntKind.u32 0, Value.int IntKind.u32 0, Value.int IntKind.u32 0, Value.int IntKind.u32 0, Value.int IntKind.u32 0, Value.int IntKind.u32 0, Value.int IntKind.u32 0, Value.int IntKind.u32 0, Value.int IntKind.u32 0, Value.int IntKind.u32 0, Value.int IntKind.u32 0, Value.int IntKind.u32 0, Value.int IntKind.u32 0, Value.int IntKind.u32 0, Value.int IntKind.u32 0, Value.int IntKind.u32 0, Value.int IntKind.u32 0, Value.int IntKind.u32 0, Value.int IntKind.u32 0, Value.int IntKind.u32 0, Value.int IntKind.u32 0, Value.int IntKind.u32 0, Value.int IntKind.u32 0, Value.int IntKind.u32 0, Value.int IntKind.u32 0, Value.int IntKind.u32 0, Value.int IntKind.u32 0, Value.int IntKind.u32 0, Value.int IntKind.u32 0, Value.int IntKind.u32 0, Value.int IntKind.u32 0, Value.int IntKind.u32 0, Value.int IntKind.u32 0, Value.int IntKind.u32 0, Value.int IntKind.u32 0, Value.int IntKind.u32 0, Value.int IntKind.u32 0, Value.int IntKind.u32 0, Value.int IntKind.u32 0, Value.int IntKind.u32 0, Value.int IntKind.u32 0, Value.int IntKind.u32 0, Value.int IntKind.u32 0, Value.int IntKind.u32 0, Value.int IntKind.u32 0, Value.int IntKind.u32 0, Value.int IntKind.u32 0, Value.int IntKind.u32 0] 85)).rowFar (b := w4.heap.size) (by omega) (wds (Sm.sched b)).toArray
  have kw := (Whole.new w4 85 #[Value.int IntKind.u32 0, Value.int IntKind.u32 0, Value.int IntKind.u32 0, Value.int IntKind.u32 0, Value.int IntKind.u32 0, Value.int IntKind.u32 0, Value.int IntKind.u32 0, Value.int IntKind.u32 0, Value.int IntKind.u32 0, Value.int IntKind.u32 0, Value.int IntKind.u32 0, Value.int IntKind.u32 0, Value.int IntKind.u32 0, Value.int IntKind.u32 0, Value.int IntKind.u32 0, Value.int IntKind.u32 0, Value.int IntKind.u32 0, Value.int IntKind.u32 0, Value.int IntKind.u32 0, Value.int IntKind.u32 0, Value.int IntKind.u32 0, Value.int IntKind.u32 0, Value.int IntKind.u32 0, Value.int IntKind.u32 0, Value.int IntKind.u32 0, Value.int IntKind.u32 0, Value.int IntKind.u32 0, Value.int IntKind.u32 0, Value.int IntKind.u32 0, Value.int IntKind.u32 0, Value.int IntKind.u32 0, Value.int IntKind.u32 0, Value.int IntKind.u32 0, Value.int IntKind.u32 0, Value.int IntKind.u32 0, Value.int IntKind.u32 0, Value.int IntKind.u32 0, Value.int IntKind.u32 0, Value.int IntKind.u32 0, Value.int IntKind.u32 0, Value.int IntKind.u32 0, Value.int IntKind.u32 0, Value.int IntKind.u32 0, Value.int IntKind.u32 0, Value.int IntKind.u32 0, Value.int IntKind.u32 0, Value.int IntKind.u32 0, Value.int IntKind.u32 0, Value.int IntKind.u32 0, Value.int IntKind.u32 0, Value.int IntKind.u32 0, Value.int IntKind.u32 0, Value.int IntKind.u32 0, Value.int IntKind.u32 0, Value.int IntKind.u32 0, Value.int IntKind.u32 0, Value.int IntKind.u32 0, Value.int IntKind.u32 0, Value.int IntKind.u32 0, Value.int IntKind.u32 0, Value.int IntKind.u32 0, Value.int IntKind.u32 0, Value.int IntKind.u32 0, Value.int IntKind.u32 0]).row (wds (Sm.sched b)).toArray
  have hb5 : Below B w ((w4.alloc (.cells #[Value.int IntKind.u32 0, Value.int IntKind.u32 0, Value.int IntKind.u32 0, Value.int IntKind.u32 0, Value.int IntKind.u32 0, Value.int IntKind.u32 0, Value.int IntKind.u32 0, Value.int IntKind.u32 0, Value.int IntKind.u32 0, Value.int IntKind.u32 0, Value.int IntKind.u32 0, Value.int IntKind.u32 0, Value.int IntKind.u32 0, Value.int IntKind.u32 0, Value.int IntKind.u32 0, Value.int IntKind.u32 0, Value.int IntKind.u32 0, Value.int IntKind.u32 0, Value.int IntKind.u32 0, Value.int IntKind.u32 0, Value.int IntKind.u32 0, Value.int IntKind.u32 0, Value.int IntKind.u32 0, Value.int IntKind.u32 0, Value.int IntKind.u32 0, Value.int IntKind.u32 0, Value.int IntKind.u32 0, Value.int IntKind.u32 0, Value.int IntKind.u32 0, Value.int IntKind.u32 0, Value.int IntKind.u32 0, Value.int IntKind.u32 0, Value.int IntKind.u32 0, Value.int IntKind.u32 0, Value.int IntKind.u32 0, Value.int IntKind.u32 0, Value.int IntKind.u32 0, Value.int IntKind.u32 0, Value.int IntKind.u32 0, Value.int IntKind.u32 0, Value.int IntKind.u32 0, Value.int IntKind.u32 0, Value.int IntKind.u32 0, Value.int IntKind.u32 0, Value.int IntKind.u32 0, Value.int IntKind.u32 0, Value.int IntKind.u32 0, Value.int IntKind.u32 0, Value.int IntKind.u32 0, Value.int IntKind.u32 0, Value.int IntKind.u32 0, Value.int IntKind.u32 0, Value.int IntKind.u32 0, Value.int IntKind.u32 0, Value.int IntKind.u32 0, Value.int IntKind.u32 0, Value.int IntKind.u32 0, Value.int IntKind.u32 0, Value.int IntKind.u32 0, Value.int IntKind.u32 0, Value.int IntKind.u32 0, Value.int IntKind.u32 0, Value.int IntKind.u32 0, Value.int IntKind.u32 0] 85)).setRow w4.heap.size (wds (Sm.sched b)).toArray) := below_row (H4.out.2.2.2.alloc (by omega) _) (by omega) _
  have hr5 : Roots ((w4.alloc (.cells #[Value.int IntKind.u32 0, Value.int IntKind.u32 0, Value.int IntKind.u32 0, Value.int IntKind.u32 0, Value.int IntKind.u32 0, Value.int IntKind.u32 0, Value.int IntKind.u32 0, Value.int IntKind.u32 0, Value.int IntKind.u32 0, Value.int IntKind.u32 0, Value.int IntKind.u32 0, Value.int IntKind.u32 0, Value.int IntKind.u32 0, Value.int IntKind.u32 0, Value.int IntKind.u32 0, Value.int IntKind.u32 0, Value.int IntKind.u32 0, Value.int IntKind.u32 0, Value.int IntKind.u32 0, Value.int IntKind.u32 0, Value.int IntKind.u32 0, Value.int IntKind.u32 0, Value.int IntKind.u32 0, Value.int IntKind.u32 0, Value.int IntKind.u32 0, Value.int IntKind.u32 0, Value.int IntKind.u32 0, Value.int IntKind.u32 0, Value.int IntKind.u32 0, Value.int IntKind.u32 0, Value.int IntKind.u32 0, Value.int IntKind.u32 0, Value.int IntKind.u32 0, Value.int IntKind.u32 0, Value.int IntKind.u32 0, Value.int IntKind.u32 0, Value.int IntKind.u32 0, Value.int IntKind.u32 0, Value.int IntKind.u32 0, Value.int IntKind.u32 0, Value.int IntKind.u32 0, Value.int IntKind.u32 0, Value.int IntKind.u32 0, Value.int IntKind.u32 0, Value.int IntKind.u32 0, Value.int IntKind.u32 0, Value.int IntKind.u32 0, Value.int IntKind.u32 0, Value.int IntKind.u32 0, Value.int IntKind.u32 0, Value.int IntKind.u32 0, Value.int IntKind.u32 0, Value.int IntKind.u32 0, Value.int IntKind.u32 0, Value.int IntKind.u32 0, Value.int IntKind.u32 0, Value.int IntKind.u32 0, Value.int IntKind.u32 0, Value.int IntKind.u32 0, Value.int IntKind.u32 0, Value.int IntKind.u32 0, Value.int IntKind.u32 0, Value.int IntKind.u32 0, Value.int IntKind.u32 0] 85)).setRow w4.heap.size (wds (Sm.sched b)).toArray) := H4.out.2.2.1.below (below_row (below_alloc _ _) (Nat.le_refl _) _) (by omega)
  generalize (w4.alloc (.cells #[Value.int IntKind.u32 0, Value.int IntKind.u32 0, Value.int IntKind.u32 0, Value.int IntKind.u32 0, Value.int IntKind.u32 0, Value.int IntKind.u32 0, Value.int IntKind.u32 0, Value.int IntKind.u32 0, Value.int IntKind.u32 0, Value.int IntKind.u32 0, Value.int IntKind.u32 0, Value.int IntKind.u32 0, Value.int IntKind.u32 0, Value.int IntKind.u32 0, Value.int IntKind.u32 0, Value.int IntKind.u32 0, Value.int IntKind.u32 0, Value.int IntKind.u32 0, Value.int IntKind.u32 0, Value.int IntKind.u32 0, Value.int IntKind.u32 0, Value.int IntKind.u32 0, Value.int IntKind.u32 0, Value.int IntKind.u32 0, Value.int IntKind.u32 0, Value.int IntKind.u32 0, Value.int IntKind.u32 0, Value.int IntKind.u32 0, Value.int IntKind.u32 0, Value.int IntKind.u32 0, Value.int IntKind.u32 0, Value.int IntKind.u32 0, Value.int IntKind.u32 0, Value.int IntKind.u32 0, Value.int IntKind.u32 0, Value.int IntKind.u32 0, Value.int IntKind.u32 0, Value.int IntKind.u32 0, Value.int IntKind.u32 0, Value.int IntKind.u32 0, Value.int IntKind.u32 0, Value.int IntKind.u32 0, Value.int IntKind.u32 0, Value.int IntKind.u32 0, Value.int IntKind.u32 0, Value.int IntKind.u32 0, Value.int IntKind.u32 0, Value.int IntKind.u32 0, Value.int IntKind.u32 0, Value.int IntKind.u32 0, Value.int IntKind.u32 0, Value.int IntKind.u32 0, Value.int IntKind.u32 0, Value.int IntKind.u32 0, Value.int IntKind.u32 0, Value.int IntKind.u32 0, Value.int IntKind.u32 0, Value.int IntKind.u32 0, Value.int IntKind.u32 0, Value.int IntKind.u32 0, Value.int IntKind.u32 0, Value.int IntKind.u32 0, Value.int IntKind.u32 0, Value.int IntKind.u32 0] 85)).setRow w4.heap.size (wds (Sm.sched b)).toArray = w5 at *
  generalize w4.heap.size = W at *
  have H5 := Lib.hid (And.intro k0 (And.intro kr (And.intro kw (And.intro hr5 hb5))))
  clear H4 k0 kr kw hr5 hb5
  have c0 : w5.cell? ⟨B, 0, none⟩ = some (.int .u32 (num s.a)) := H5.out.1.cell 0
  have c1 : w5.cell? ⟨B, 1, none⟩ = some (.int .u32 (num s.b)) := H5.out.1.cell 1
  have c2 : w5.cell? ⟨B, 2, none⟩ = some (.int .u32 (num s.c)) := H5.out.1.cell 2
  have c3 : w5.cell? ⟨B, 3, none⟩ = some (.int .u32 (num s.d)) := H5.out.1.cell 3
  have c4 : w5.cell? ⟨B, 4, none⟩ = some (.int .u32 (num s.e)) := H5.out.1.cell 4
  have c5 : w5.cell? ⟨B, 5, none⟩ = some (.int .u32 (num s.f)) := H5.out.1.cell 5
  have c6 : w5.cell? ⟨B, 6, none⟩ = some (.int .u32 (num s.g)) := H5.out.1.cell 6
  have c7 : w5.cell? ⟨B, 7, none⟩ = some (.int .u32 (num s.h)) := H5.out.1.cell 7
  go_quiet (fail)
  go_wp2
  clear c0 c1 c2 c3 c4 c5 c6 c7
  have H6 : Hid (Whole (w5.drewN nq) B 70 (wds s.l).toArray ∧ Whole (w5.drewN nq) (B + 1 + 1) 70 (wds (zeros32 8)).toArray ∧ Whole (w5.drewN nq) W 85 (wds (Sm.sched b)).toArray ∧ Roots (w5.drewN nq) ∧ Below B w (w5.drewN nq)) := Lib.hid ⟨H5.out.1, H5.out.2.1, H5.out.2.2.1, H5.out.2.2.2.1, below_drewN H5.out.2.2.2.2 nq⟩
  clear H5 hNa
  generalize w5.drewN nq = w6 at *
  go_loopw [6, 7, 8, 9, 10, 11, 12, 13, 39] (fun va vb vc vd ve vf vg vh i wr => ∃ t : Nat, t ≤ 64 ∧ i = .int .i64 t ∧ StAt (Sm.stepsTo s (Sm.sched b) t) va vb vc vd ve vf vg vh ∧ Hid (Whole wr B 70 (wds s.l).toArray ∧ Whole wr (B + 1 + 1) 70 (wds (zeros32 8)).toArray ∧ Whole wr W 85 (wds (Sm.sched b)).toArray ∧ Roots wr ∧ Below B w wr)) (fun _ _ _ _ _ _ _ _ i _ => 64 - (intOf i).toNat)
  case atStart => exact ⟨0, Nat.zero_le _, rfl, ⟨rfl, rfl, rfl, rfl, rfl, rfl, rfl, rfl⟩, H6⟩
  case round =>
    clear H6
    obtain ⟨t, ht, rfl, ⟨rfl, rfl, rfl, rfl, rfl, rfl, rfl, rfl⟩, HB⟩ := hrel
    by_cases hlt : t < 64
    · obtain ⟨kt, xt, r', ck, cw, HS⟩ : ∃ kt xt r', wr.cell? ⟨1, t, none⟩ = some (.int .u32 (num kt)) ∧ wr.cell? ⟨W, t, none⟩ = some (.int .u32 (num xt)) ∧ Hid (Sm.stepsTo s (Sm.sched b) (t + 1) = r' ∧ r' = Sm.step (Sm.stepsTo s (Sm.sched b) t) kt xt) :=
        ⟨_, _, _, HB.out.2.2.2.1.k t hlt, (HB.out.2.2.1.cell t).trans (by rw [List.getElem?_toArray, wds_get _ _ (by rw [sched_len]; omega)]), Lib.hid ⟨rfl, rfl⟩⟩
      with_reducible generalize Sm.stepsTo s (Sm.sched b) t = r at *
      have hd : decide ((t : Int) < 64) = true := by simp; omega
      have hnot : bits .xor .u32 (if IntKind.u32.signed = true then -1 else IntKind.u32.max) (num r.e) = num (~~~r.e) := num_not r.e
      have hch : bits .xor .u32 (bits .and .u32 (num r.e) (num r.f)) (bits .and .u32 (num (~~~r.e)) (num r.g)) = num (Sm.ch r.e r.f r.g) := by rw [num_and, num_and, num_xor]; rfl
      have hmj : bits .xor .u32 (bits .xor .u32 (bits .and .u32 (num r.a) (num r.b)) (bits .and .u32 (num r.a) (num r.c))) (bits .and .u32 (num r.b) (num r.c)) = num (Sm.mj r.a r.b r.c) := by rw [num_and, num_and, num_and, num_xor, num_xor]; rfl
      go_wp2
      clear hnot hch hmj
      have q0 : (t : Int) < 64 := by omega
      go_quiet ((go_at_call 52; exact Calls.quiet_of_same ((spreadE_any r.e _).mono fun e w'' h => ⟨h.1, h.2.symm⟩)))
      simp only [num_t1]
      have HBN : Hid (Whole (wr.drewN nq) B 70 (wds s.l).toArray ∧ Whole (wr.drewN nq) (B + 1 + 1) 70 (wds (zeros32 8)).toArray ∧ Whole (wr.drewN nq) W 85 (wds (Sm.sched b)).toArray ∧ Roots (wr.drewN nq) ∧ Below B w (wr.drewN nq)) := Lib.hid ⟨HB.out.1, HB.out.2.1, HB.out.2.2.1, HB.out.2.2.2.1, below_drewN HB.out.2.2.2.2 nq⟩
      generalize wr.drewN nq = wq at *
      clear ck cw
      go_wp2_with (go_at_call 53; refine (spreadA_any _ _).mono ?_; rintro e w' ⟨rfl, rfl⟩)
      go_roundw
      case rel =>
        refine ⟨t + 1, by omega, by go_num, ?_, HBN⟩
        rw [HS.out.1, HS.out.2]
        exact ⟨val_u32 (by rw [num_add, num_add]; rfl), rfl, rfl, rfl, val_u32 (by rw [num_add]; rfl), rfl, rfl, rfl⟩
      case measure => simp [intOf]; omega
    · have hd : decide ((t : Int) < 64) = false := by simp; omega
      have HT : Hid (t = 64) := Lib.hid (by omega)
      have HM : Hid (Sm.mix s b = Sm.plus s (Sm.stepsTo s (Sm.sched b) t)) := Lib.hid (by rw [HT.out]; rfl)
      with_reducible generalize Sm.stepsTo s (Sm.sched b) t = r at *
      go_wp2
      have H7 := HB
      clear HB
      go_loopw [101] (fun i wr => ∃ k : Nat, k ≤ 8 ∧ i = .int .i64 k ∧ Hid (Whole wr B 70 (wds ((Sm.plus s r).l.take k ++ s.l.drop k)).toArray ∧ Whole wr (B + 1 + 1) 70 (wds (zeros32 8)).toArray ∧ Below B w wr)) (fun i _ => 8 - (intOf i).toNat)
      case atStart => exact ⟨0, Nat.zero_le _, rfl, Lib.hid ⟨H7.out.1, H7.out.2.1, H7.out.2.2.2.2⟩⟩
      case round =>
        clear H7
        obtain ⟨k, hk, rfl, HB⟩ := hrel
        by_cases hlt : k < 8
        · have hd : decide ((k : Int) < 8) = true := by simp; omega
          have q0 : (k : Int) < 8 := by omega
          have hix : (Instr.index 70 (.agg #[.int .u32 (num r.a), .int .u32 (num r.b), .int .u32 (num r.c), .int .u32 (num r.d), .int .u32 (num r.e), .int .u32 (num r.f), .int .u32 (num r.g), .int .u32 (num r.h)]) (.int .i64 (k : Int))).run Tryd.prog wr = .ok (.int .u32 (num (r.l.getD k 0))) wr := index_w8 r.l rfl k hlt wr
          have cs : wr.cell? ⟨B, k, none⟩ = some (.int .u32 (num (s.l.getD k 0))) := (HB.out.1.cell k).trans (by rw [List.getElem?_toArray, wds_get _ _ (by simp [Sm.St.l]; omega), mix_get (Sm.plus s r).l s.l k rfl hlt])
          have fw : wr.frozen? ⟨B, k, none⟩ = false := HB.out.1.frozen k
          obtain ⟨y, hy, HY⟩ : ∃ y, num (s.l.getD k 0 + r.l.getD k 0) = num y ∧ Hid ((wds ((Sm.plus s r).l.take k ++ s.l.drop k)).toArray.setIfInBounds k (.int .u32 (num y)) = (wds ((Sm.plus s r).l.take (k + 1) ++ s.l.drop (k + 1))).toArray) := ⟨_, rfl, Lib.hid (mix_set s r k hlt)⟩
          have hv : (num (s.l.getD k 0) + num (r.l.getD k 0)) % 4294967296 = num y := (num_add _ _).trans hy
          clear hy
          with_reducible generalize r.l.getD k 0 = rk at *
          with_reducible generalize s.l.getD k 0 = sk at *
          go_wp2
          go_roundw
          case rel =>
            refine ⟨k + 1, by omega, by go_num, Lib.hid ⟨?_, HB.out.2.1.far (p := ⟨B, k, none⟩) (by show B + 1 + 1 ≠ B; omega) _, HB.out.2.2.setCell (by show B ≤ B; omega) _⟩⟩
            rw [← HY.out]
            exact HB.out.1.set k _
          case measure => simp [intOf]; omega
        · have hd : decide ((k : Int) < 8) = false := by simp; omega
          have hk8 : k = 8 := by omega
          have K0 : Hid (Whole wr B 70 (wds (Sm.mix s b).l).toArray) := Lib.hid (by have := HB.out.1; rw [hk8] at this; rw [HM.out]; exact this)
          have K1 : Hid (Whole wr (B + 1 + 1) 70 (wds (zeros32 8)).toArray) := Lib.hid HB.out.2.1
          have HBL := Lib.hid HB.out.2.2
          clear HB hk8 HM
          have hNa := all_wds (Sm.mix s b).l
          have HNS : Hid ((wds (Sm.mix s b).l).toArray.size = 8) := Lib.hid rfl
          have HZ : Hid ((wds (zeros32 8)).toArray.size = 8) := Lib.hid rfl
          with_reducible generalize hN : (wds (Sm.mix s b).l).toArray = N at *
          go_wp2_with (first
            | ((with_reducible show wpList _ _ _ ((⟨_, Op.load 70 _, _, _, _, _⟩ : Oper) :: _) _ _); refine wpList_load_row rfl _ (.tmp 2) rfl B rfl 70 N (0, 0) _ K0.out undW8 rfl (by rw [HNS.out]; exact infoW8) ?_)
            | ((with_reducible show wpList _ _ _ ((⟨_, Op.store 70 _ _, _, _, _, _⟩ : Oper) :: _) _ _); refine wpList_store_row rfl _ (.tmp 4) (.tmp 112) rfl (B + 1 + 1) N rfl rfl 70 _ K1.out (by rw [HNS.out]; exact infoW8) (by rw [HZ.out, HNS.out]) hNa ?_))
          refine bodyPost_ret (results_one_cell rfl _ _ _ _ rfl (run_loadVar_row _ _ _ _ _ (0, 0) _ (K1.out.row N) undW8 rfl (by rw [HNS.out]; exact infoW8))) rfl ?_
          exact ⟨by rw [hN], by rw [HBE.out]; exact below_row HBL.out (by omega) N⟩
end Go.Proofs.YtiogfkhmigbgpaaDoor
namespace Go.Proofs.YtiogfkhmigbgpaaDoor
namespace Sm
theorem stTo_append (l m : List Int) (k : Nat) (h : 64 * k ≤ l.length) : stTo (l ++ m) k = stTo l k := by
  induction k with
  | zero => rfl
  | succ k ih =>
    simp only [stTo]
    rw [ih (by omega), List.drop_append_of_le_length (by omega), List.take_append_of_le_length (by rw [List.length_drop]; omega)]
theorem st_same (l x : List Int) (h : l.length % 64 + x.length < 64) : st (l ++ x) = st l := by
  unfold st
  have e : (l ++ x).length / 64 = l.length / 64 := by rw [List.length_append]; omega
  rw [e, stTo_append _ _ _ (by omega)]
theorem st_full (l x : List Int) (h : l.length % 64 + x.length = 64) : st (l ++ x) = mix (st l) (l.drop (64 * (l.length / 64)) ++ x) := by
  unfold st
  have e : (l ++ x).length / 64 = l.length / 64 + 1 := by rw [List.length_append]; omega
  rw [e]
  simp only [stTo]
  rw [stTo_append _ _ _ (by omega), List.drop_append_of_le_length (by omega), List.take_of_length_le (by rw [List.length_append, List.length_drop]; omega)]
/-- The block that a text is in: bf begins with what stands behind the whole blocks. -/
def InBlock (bf l : List Int) : Prop := bf.length = 64 ∧ bf.take (l.length % 64) = l.drop (64 * (l.length / 64))
def laid (bf : List Int) (r : Nat) (x : List Int) : List Int := bf.take r ++ (x ++ bf.drop (r + x.length))
theorem laid_len {bf x : List Int} {r : Nat} (h : bf.length = 64) (hr : r + x.length ≤ 64) : (laid bf r x).length = 64 := by
  simp [laid]; omega
theorem laid_take {bf x : List Int} {r : Nat} (h : bf.length = 64) (hr : r + x.length ≤ 64) : (laid bf r x).take (r + x.length) = bf.take r ++ x := by
  unfold laid
  have e : (bf.take r).length = r := by simp; omega
  rw [← List.append_assoc, List.take_append_of_le_length (by simp; omega), List.take_of_length_le (by simp; omega)]
theorem inBlock_same {bf l x : List Int} (h : InBlock bf l) (hx : l.length % 64 + x.length < 64) : InBlock (laid bf (l.length % 64) x) (l ++ x) := by
  refine ⟨laid_len h.1 (by omega), ?_⟩
  have e : (l ++ x).length / 64 = l.length / 64 := by rw [List.length_append]; omega
  have e2 : (l ++ x).length % 64 = l.length % 64 + x.length := by rw [List.length_append]; omega
  rw [e, e2, laid_take h.1 (by omega), h.2, List.drop_append_of_le_length (by omega)]
theorem inBlock_full {bf l x : List Int} (h : InBlock bf l) (hx : l.length % 64 + x.length = 64) : InBlock (laid bf (l.length % 64) x) (l ++ x) ∧ st (l ++ x) = mix (st l) (laid bf (l.length % 64) x) := by
  have hl := laid_len (x := x) h.1 (r := l.length % 64) (by omega)
  have e2 : (l ++ x).length % 64 = 0 := by rw [List.length_append]; omega
  refine ⟨⟨hl, ?_⟩, ?_⟩
  · rw [e2, List.take_zero, List.drop_eq_nil_of_le (by omega)]
  · rw [st_full _ _ hx, ← h.2]
    congr 1
    have := laid_take (x := x) h.1 (r := l.length % 64) (by omega)
    rw [hx, List.take_of_length_le (by omega)] at this
    exact this.symm
theorem inBlock_nil {bf : List Int} (h : bf.length = 64) : InBlock bf [] := ⟨h, by simp⟩
theorem st_nil : st [] = h0 := rfl
end Sm
end Go.Proofs.YtiogfkhmigbgpaaDoor
