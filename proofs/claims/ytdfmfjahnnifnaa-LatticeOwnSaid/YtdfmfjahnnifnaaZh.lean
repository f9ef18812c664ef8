/-
  The plain mathematics of digests: words of 32 bits, the words of a block, its 64 steps, the state behind a text, what stands behind a text, the digest, codes and trees.
  Words for memory: bytes that lie in a slice, blocks that are known whole, what stays of them, and appends.
  Words of 32 bits as the machine has them, and the walks of RotateLeft32, turned, spreadA, spreadE, spread0, spread1.
  The walk of schedule: the words of a block.
  The walk of mixed: the state behind one more block.
  Plain facts on the state behind a text: it hangs on whole blocks alone; a text that is told part by part.
  Digests in memory, and the walk of add.
  The walks of noughts and stateBytes.
  The walk of end.
  Texts in parts, and the walk of Sum.
  The walks of changed and keyBlock.
  The walk of Code.
  Powers of two, trees of digests, digests in a slice; the walks of Len64, Len, powerBelow.
  The walk of Tree. (Made by tools/gen_tree.py.)
  Equality of two hashes.
  What came in: texts, digests, rows of digests; the two tables as they are laid.
-/
import Derived.Test.YtdfmfjahnnifnaaChecked
import Derived.WalkKit
import Derived.WalkSpells
import Derived.WalkLawsBesides
import Derived.Below
import Derived.Maps.AppendAt
import Derived.OwnWalk
import Derived.Deep.AppendLies
import Derived.Laws.Cover3
import Derived.Laws.BytesArg
import Derived.Lib.Hide
import Derived.Laws.Pointers
import Derived.Laws.Rows
import Derived.Laws.CopyRow
import Derived.Laws.CopyOwn
import Derived.Laws.Tables
import Derived.Deep.MidRow
import Derived.Deep.QuietTactic
import Derived.BigQuiet
import Derived.StillTailTactics
import Derived.Deep.RegionHeld3
import Derived.Deep.Cut
import Derived.Laws.MathBits
import Derived.Deep.DeepCutAuto
import Derived.Deep.Slices
import Derived.ChangeSlices
import Derived.ChangeOld
import Derived.ProofKit
import Derived.LaidMore
import Derived.OpenShut
import Derived.Stop.Joined
namespace Go.Proofs.Ytdfmfjahnnifnaa
namespace Sm
def rK : List (BitVec 32) := [1116352408#32, 1899447441#32, 3049323471#32, 3921009573#32, 961987163#32, 1508970993#32, 2453635748#32, 2870763221#32, 3624381080#32, 310598401#32, 607225278#32, 1426881987#32, 1925078388#32, 2162078206#32, 2614888103#32, 3248222580#32, 3835390401#32, 4022224774#32, 264347078#32, 604807628#32, 770255983#32, 1249150122#32, 1555081692#32, 1996064986#32, 2554220882#32, 2821834349#32, 2952996808#32, 3210313671#32, 3336571891#32, 3584528711#32, 113926993#32, 338241895#32, 666307205#32, 773529912#32, 1294757372#32, 1396182291#32, 1695183700#32, 1986661051#32, 2177026350#32, 2456956037#32, 2730485921#32, 2820302411#32, 3259730800#32, 3345764771#32, 3516065817#32, 3600352804#32, 4094571909#32, 275423344#32, 430227734#32, 506948616#32, 659060556#32, 883997877#32, 958139571#32, 1322822218#32, 1537002063#32, 1747873779#32, 1955562222#32, 2024104815#32, 2227730452#32, 2361852424#32, 2428436474#32, 2756734187#32, 3204031479#32, 3329325298#32]
def rH : List (BitVec 32) := [1779033703#32, 3144134277#32, 1013904242#32, 2773480762#32, 1359893119#32, 2600822924#32, 528734635#32, 1541459225#32]
def sA (x : BitVec 32) : BitVec 32 := x.rotateRight 2 ^^^ x.rotateRight 13 ^^^ x.rotateRight 22
def sE (x : BitVec 32) : BitVec 32 := x.rotateRight 6 ^^^ x.rotateRight 11 ^^^ x.rotateRight 25
def s0 (x : BitVec 32) : BitVec 32 := x.rotateRight 7 ^^^ x.rotateRight 18 ^^^ x >>> 3
def s1 (x : BitVec 32) : BitVec 32 := x.rotateRight 17 ^^^ x.rotateRight 19 ^^^ x >>> 10
def wd (b : List Int) (t : Nat) : BitVec 32 := BitVec.ofInt 32 (b.getD (4 * t) 0 * 16777216 + b.getD (4 * t + 1) 0 * 65536 + b.getD (4 * t + 2) 0 * 256 + b.getD (4 * t + 3) 0)
def nextW (l : List (BitVec 32)) (t : Nat) : BitVec 32 := s1 (l.getD (t - 2) 0) + l.getD (t - 7) 0 + s0 (l.getD (t - 15) 0) + l.getD (t - 16) 0
def w16 (b : List Int) (k : Nat) : List (BitVec 32) := (List.range k).map (wd b)
def wTo (b : List Int) : Nat → List (BitVec 32)
  | 0 => w16 b 16
  | k + 1 => wTo b k ++ [nextW (wTo b k) (16 + k)]
def sched (b : List Int) : List (BitVec 32) := wTo b 48
structure St where
  a : BitVec 32
  b : BitVec 32
  c : BitVec 32
  d : BitVec 32
  e : BitVec 32
  f : BitVec 32
  g : BitVec 32
  h : BitVec 32
def St.l (s : St) : List (BitVec 32) := [s.a, s.b, s.c, s.d, s.e, s.f, s.g, s.h]
def ch (e f g : BitVec 32) : BitVec 32 := e &&& f ^^^ ~~~e &&& g
def mj (a b c : BitVec 32) : BitVec 32 := a &&& b ^^^ a &&& c ^^^ b &&& c
def t1 (s : St) (k w : BitVec 32) : BitVec 32 := s.h + sE s.e + ch s.e s.f s.g + k + w
def t2 (s : St) : BitVec 32 := sA s.a + mj s.a s.b s.c
def step (s : St) (k w : BitVec 32) : St := ⟨t1 s k w + t2 s, s.a, s.b, s.c, s.d + t1 s k w, s.e, s.f, s.g⟩
def stepsTo (s : St) (ws : List (BitVec 32)) : Nat → St
  | 0 => s
  | t + 1 => step (stepsTo s ws t) (rK.getD t 0) (ws.getD t 0)
def plus (s r : St) : St := ⟨s.a + r.a, s.b + r.b, s.c + r.c, s.d + r.d, s.e + r.e, s.f + r.f, s.g + r.g, s.h + r.h⟩
def mix (s : St) (b : List Int) : St := plus s (stepsTo s (sched b) 64)
def h0 : St := ⟨rH.getD 0 0, rH.getD 1 0, rH.getD 2 0, rH.getD 3 0, rH.getD 4 0, rH.getD 5 0, rH.getD 6 0, rH.getD 7 0⟩
def stTo (l : List Int) : Nat → St
  | 0 => h0
  | k + 1 => mix (stTo l k) ((l.drop (64 * k)).take 64)
def st (l : List Int) : St := stTo l (l.length / 64)
def byteOf (x : BitVec 32) (j : Nat) : Int := ((x.toNat / 2 ^ (24 - 8 * j) % 256 : Nat) : Int)
def bytesOf (ws : List (BitVec 32)) : List Int := ws.flatMap fun x => [byteOf x 0, byteOf x 1, byteOf x 2, byteOf x 3]
def noughts (n : Nat) : Nat := (119 - n % 64) % 64
def bits8 (n : Nat) : List Int := (List.range 8).map fun i => ((8 * n / 2 ^ (56 - 8 * i) % 256 : Nat) : Int)
def tail (n : Nat) : List Int := 128 :: (List.replicate (noughts n) 0 ++ bits8 n)
def padded (l : List Int) : List Int := l ++ tail l.length
def dig (l : List Int) : List Int := bytesOf (st (padded l)).l
end Sm
end Go.Proofs.Ytdfmfjahnnifnaa
namespace Go.Proofs.Ytdfmfjahnnifnaa
set_option maxRecDepth 20000
open Go.RowKit

def Byt (l : List Int) : Prop := ∀ x ∈ l, 0 ≤ x ∧ x < 256
theorem byt_append {a b : List Int} (ha : Byt a) (hb : Byt b) : Byt (a ++ b) := by
  intro x hx
  rcases List.mem_append.1 hx with h | h
  · exact ha x h
  · exact hb x h
theorem byt_left {a b : List Int} (h : Byt (a ++ b)) : Byt a := fun x hx => h x (List.mem_append_left _ hx)
theorem byt_right {a b : List Int} (h : Byt (a ++ b)) : Byt b := fun x hx => h x (List.mem_append_right _ hx)
theorem byt_drop {a : List Int} (h : Byt a) (k : Nat) : Byt (a.drop k) := fun x hx => h x (List.mem_of_mem_drop hx)
theorem byt_take {a : List Int} (h : Byt a) (k : Nat) : Byt (a.take k) := fun x hx => h x (List.mem_of_mem_take hx)
theorem byt_nil : Byt [] := fun x hx => by cases hx
theorem byt_cons {x : Int} {l : List Int} (h0 : 0 ≤ x) (h1 : x < 256) (h : Byt l) : Byt (x :: l) := by
  intro y hy
  rcases List.mem_cons.1 hy with h' | h'
  · subst h'; exact ⟨h0, h1⟩
  · exact h y h'
theorem byt_getD {l : List Int} (h : Byt l) (k : Nat) : 0 ≤ l.getD k 0 ∧ l.getD k 0 < 256 := by
  by_cases hl : k < l.length
  · have : l.getD k 0 = l[k] := by simp [hl]
    rw [this]
    exact h _ (List.getElem_mem hl)
  · have : l.getD k 0 = 0 := by simp [Nat.le_of_not_lt hl]
    rw [this]; omega
theorem byt_zeros (n : Nat) : Byt (List.replicate n 0) := by
  intro x hx
  have := (List.mem_replicate.1 hx).2
  omega

def nums (l : List Int) : List Value := l.map (Value.int .u8)
theorem nums_len (l : List Int) : (nums l).length = l.length := by simp [nums]
theorem nums_get (l : List Int) (k : Nat) (h : k < l.length) : (nums l)[k]? = some (.int .u8 (l.getD k 0)) := by simp [nums, h]
theorem nums_append (a b : List Int) : nums (a ++ b) = nums a ++ nums b := by simp [nums]
theorem nums_take (a : List Int) (n : Nat) : nums (a.take n) = (nums a).take n := by simp [nums]
theorem nums_drop (a : List Int) (n : Nat) : nums (a.drop n) = (nums a).drop n := by simp [nums]
theorem nums_one (l : List Int) : ∀ u ∈ nums l, u.oneCell' = true := ints_oneCell .u8 l
theorem all_nums (l : List Int) : (nums l).toArray.all (·.oneCell') = true := Array.all_eq_true_iff_forall_mem.2 (fun v hv => nums_one l v (by simpa using hv))

/-- The slice a, n, c holds the bytes l; where it has any its block is one of S. -/
def Txt (w : World) (S : Nat → Prop) (a : Option Addr) (n c : Nat) (l : List Int) : Prop :=
  l.length = n ∧ n ≤ c ∧ Byt l ∧ (l = [] ∨ ∃ b off, a = some ⟨b, off, none⟩ ∧ S b ∧ b < w.heap.size ∧ ∀ k, k < n → w.cell? ⟨b, off + k, none⟩ = some (.int .u8 (l.getD k 0)))

section
variable {w w' : World} {S S' : Nat → Prop} {a : Option Addr} {n c : Nat} {l : List Int}
theorem Txt.keep (h : Txt w S a n c l) (hz : w.heap.size ≤ w'.heap.size) (hk : ∀ b, b < w.heap.size → S b → w'.heap[b]? = w.heap[b]?) : Txt w' S a n c l := by
  obtain ⟨h1, h2, h3, h4⟩ := h
  refine ⟨h1, h2, h3, ?_⟩
  rcases h4 with h | ⟨b, off, rfl, hs, hb, hc⟩
  · exact Or.inl h
  · refine Or.inr ⟨b, off, rfl, hs, by omega, fun k hk' => ?_⟩
    rw [← hc k hk']
    exact World.cell?_of_block (w := w) (hk b hb hs)
theorem Txt.weak (h : Txt w S a n c l) (hs : ∀ b, b < w.heap.size → S b → S' b) : Txt w S' a n c l := by
  obtain ⟨h1, h2, h3, h4⟩ := h
  refine ⟨h1, h2, h3, ?_⟩
  rcases h4 with h | ⟨b, off, rfl, hs', hb, hc⟩
  · exact Or.inl h
  · exact Or.inr ⟨b, off, rfl, hs b hb hs', hb, hc⟩
theorem Txt.old (h : Txt w S a n c l) : Txt w (fun b => b < w.heap.size) a n c l := h.weak fun _ hb _ => hb
theorem Txt.below {B : Nat} (h : Txt w S a n c l) (hb : Below B w w') (hs : ∀ b, b < w.heap.size → S b → b < B) : Txt w' S a n c l :=
  h.keep hb.size fun b hlt hS => hb.block b (hs b hlt hS)
theorem Txt.grown {row : Option Nat} (h : Txt w S a n c l) (hg : w.grownBy w' row) (hs : ∀ b, b < w.heap.size → S b → some b ≠ row) : Txt w' S a n c l :=
  h.keep hg.size fun b hlt hS => hg.block b hlt (hs b hlt hS)
theorem Txt.nil (w : World) (S : Nat → Prop) (a : Option Addr) (c : Nat) : Txt w S a 0 c [] := ⟨rfl, Nat.zero_le _, byt_nil, Or.inl rfl⟩
theorem Txt.cell (h : Txt w S a n c l) {k : Nat} (hk : k < n) : ∃ b off, a = some ⟨b, off, none⟩ ∧ S b ∧ b < w.heap.size ∧ w.cell? ⟨b, off + k, none⟩ = some (.int .u8 (l.getD k 0)) := by
  obtain ⟨h1, h2, h3, h4⟩ := h
  rcases h4 with h | ⟨b, off, rfl, hs, hb, hc⟩
  · subst h; simp at h1; omega
  · exact ⟨b, off, rfl, hs, hb, hc k hk⟩
theorem Txt.cells (h : Txt w S a n c l) (hn : 0 < n) : ∃ b off, a = some ⟨b, off, none⟩ ∧ S b ∧ b < w.heap.size ∧ w.rangeAt b off (nums l) := by
  obtain ⟨h1, h2, h3, h4⟩ := h
  rcases h4 with h | ⟨b, off, rfl, hs, hb, hc⟩
  · subst h; simp at h1; omega
  · refine ⟨b, off, rfl, hs, hb, fun j v hv => ?_⟩
    have hj : j < l.length := by have := (List.getElem?_eq_some_iff.1 hv).1; rwa [nums_len] at this
    rw [nums_get _ _ hj] at hv
    rw [hc j (by omega)]; exact hv
theorem Txt.byte (h : Txt w S a n c l) (k : Nat) : 0 ≤ l.getD k 0 ∧ l.getD k 0 < 256 := byt_getD h.2.2.1 k
theorem Txt.take (h : Txt w S a n c l) (k : Nat) (hk : k ≤ n) : Txt w S a k c (l.take k) := by
  obtain ⟨h1, h2, h3, h4⟩ := h
  refine ⟨by simp; omega, by omega, byt_take h3 k, ?_⟩
  rcases h4 with h | ⟨b, off, rfl, hs, hb, hc⟩
  · subst h; exact Or.inl (by simp)
  · refine Or.inr ⟨b, off, rfl, hs, hb, fun j hj => ?_⟩
    rw [hc j (by omega)]
    have : j < l.length := by omega
    simp [this, hj]
theorem Txt.drop (h : Txt w S a n c l) (k : Nat) (hk : k ≤ n) : Txt w S (if c = k then a else a.map (·.add k)) (n - k) (c - k) (l.drop k) := by
  obtain ⟨h1, h2, h3, h4⟩ := h
  refine ⟨by simp; omega, by omega, byt_drop h3 k, ?_⟩
  by_cases he : l.drop k = []
  · exact Or.inl he
  rcases h4 with h | ⟨b, off, rfl, hs, hb, hc⟩
  · subst h; exact Or.inl (by simp)
  · have hl : k < l.length := by
      apply Decidable.byContradiction
      intro hh
      exact he (List.drop_eq_nil_of_le (by omega))
    refine Or.inr ⟨b, off + k, ?_, hs, hb, fun j hj => ?_⟩
    · rw [if_neg (by omega)]
      simp [Addr.add_lit]
    · rw [Nat.add_assoc, hc (k + j) (by omega)]
      have : k + j < l.length := by omega
      simp [this]
theorem Txt.own {base : Nat} {v : Value} (h : w.ownsRow base 5 1 v n (nums l)) (hb : Byt l) : ∃ a c, v = .slice a n c ∧ Txt w (base ≤ ·) a n c l := by
  have hn : l.length = n := by have := h.1; rw [nums_len] at this; omega
  by_cases h0 : n = 0
  · have hl : l = [] := List.eq_nil_of_length_eq_zero (by omega)
    subst h0
    rcases h.2 with ⟨rfl, _⟩ | ⟨g, cap, cur, rfl, _, _, _, _⟩
    · exact ⟨_, _, rfl, hn, Nat.zero_le _, hb, Or.inl hl⟩
    · exact ⟨_, _, rfl, hn, Nat.zero_le _, hb, Or.inl hl⟩
  · obtain ⟨g, cap, rfl, hb', hlt⟩ := h.form (by omega)
    have hcap : n ≤ cap := by
      rcases h.2 with ⟨h', _⟩ | ⟨g', cap', cur, h', _, _, hnc, _⟩
      · simp at h'
      · simp only [Value.slice.injEq] at h'
        omega
    refine ⟨_, _, rfl, hn, hcap, hb, Or.inr ⟨g, 0, rfl, hb', hlt, fun k hk => ?_⟩⟩
    rw [Nat.zero_add, h.cellAt k (by omega), nums_get _ _ (by omega)]
end

/-- append onto a row of the call's own, from whatever slice. -/
theorem run_append_txt {P : Program} (w : World) (base : Nat) (t ty e : TypeId) (i : TypeInfo) (z : Value) (bytes : Nat) (ht : P.underlying t = some (.slice e)) (hi : P.info? e = some i) (hz : i.zero = some z)
    (hsize : i.size = 1) (hby : i.bytes = bytes) (hzs : z.cells.size = 1)
    (v : Value) (n : Nat) (xs : List Value) (hown : w.ownsRow base e 1 v n xs) (S : Nat → Prop) (A : Option Addr) (m c : Nat) (l : List Int) (hr : Txt w S A m c l)
    (h63 : n + m ≤ maxLen) (hbytes : (n + m) * bytes ≤ 140737488355328) (hbase : base ≤ w.heap.size) :
    ∃ v' w', (Builtin.append_ #[t, t] ty #[v, .slice A m c]).run P w = .ok v' w' ∧ w'.ownsRow base e 1 v' (n + m) (xs ++ nums l) ∧ w.grownBy w' v.ownBlock ∧
      (v'.ownBlock = v.ownBlock ∨ v'.ownBlock = some w.heap.size) := by
  cases A with
  | none =>
    have hl : l = [] := by
      rcases hr.2.2.2 with h | ⟨b, off, h, _⟩
      · exact h
      · cases h
    subst hl
    have hm : m = 0 := hr.1.symm
    subst hm
    refine ⟨v, w, ?_, by simpa [nums] using hown, World.grownBy.refl w _, .inl rfl⟩
    rcases hown.2 with ⟨rfl, rfl⟩ | ⟨g, cap, cur, rfl, _, _, hnc, _⟩
    · simp [Builtin.append_, run_underlying ht, sizeOf, typeInfo, hi, Builtin.lenOf, Builtin.firstCells]
    · simp [Builtin.append_, run_underlying ht, sizeOf, typeInfo, hi, Builtin.lenOf, Builtin.firstCells, hnc, storeCells]
  | some ad =>
    have hcells : ∀ j u, (nums l)[j]? = some u → w.cell? (ad.add j) = some u := by
      intro j u hu
      have hj : j < l.length := by
        have := (List.getElem?_eq_some_iff.1 hu).1
        rwa [nums_len] at this
      rw [nums_get _ _ hj] at hu
      obtain ⟨b, off, h, _, _, hc⟩ := hr.cell (k := j) (by rw [← hr.1]; exact hj)
      injection h with h
      subst h
      rw [Addr.add_lit, hc, hu]
    obtain ⟨v', w', hrun, h2, h3, _, h5⟩ := run_append_own_at (P := P) w base t ty e i z 1 bytes ht hi hz hsize hby hzs (by omega) v n xs hown ad m c (nums l) (by rw [nums_len, hr.1]; omega) hcells (nums_one l) h63 hbytes hbase
    exact ⟨v', w', hrun, h2, h3, h5⟩

theorem wp_append_txt {P : Program} (w : World) {o : Oper} {a : Act} {K : Act → World → Prop} {Q : Exit → Act → World → Prop} (s x : Operand) (t : TypeId)
    (ho : o.op = .call { callee := .builtin .append, args := #[s, x], argTypes := #[t, t] })
    (base : Nat) (e : TypeId) (i : TypeInfo) (z : Value) (bytes : Nat) (ht : P.underlying t = some (.slice e)) (hi : P.info? e = some i) (hz : i.zero = some z)
    (hsize : i.size = 1) (hby : i.bytes = bytes) (hzs : z.cells.size = 1)
    (v : Value) (n : Nat) (xs : List Value) (hs : a.eval s = v) (hown : w.ownsRow base e 1 v n xs)
    (S : Nat → Prop) (A : Option Addr) (m c : Nat) (l : List Int) (hx : a.eval x = .slice A m c) (hr : Txt w S A m c l)
    (h63 : n + m ≤ maxLen) (hbytes : (n + m) * bytes ≤ 140737488355328) (hbase : base ≤ w.heap.size)
    (h : ∀ v' w', w'.ownsRow base e 1 v' (n + m) (xs ++ nums l) → w.grownBy w' v.ownBlock → (v'.ownBlock = v.ownBlock ∨ v'.ownBlock = some w.heap.size) → K (a.put o.dst v') w') : o.wp P a w K Q := by
  obtain ⟨v', w', hrun, h2, h3, h4⟩ := run_append_txt (P := P) w base t o.type e i z bytes ht hi hz hsize hby hzs v n xs hown S A m c l hr h63 hbytes hbase
  unfold Oper.wp execOp
  simp only [ho, resolve, invoke, builtin, Sem.run_bind, Sem.run_pure, Result.andThen_ok, List.map_toArray, List.map_cons, List.map_nil, hs, hx, hrun]
  exact h v' w' h2 h3 h4
theorem wpList_append_txt {P : Program} (w : World) {ops : Array Oper} {rest : List Oper} {o : Oper} {a : Act} {Q : Exit → Act → World → Prop} (hgd : o.guard = none) (s x : Operand) (t : TypeId)
    (ho : o.op = .call { callee := .builtin .append, args := #[s, x], argTypes := #[t, t] })
    (base : Nat) (e : TypeId) (i : TypeInfo) (z : Value) (bytes : Nat) (ht : P.underlying t = some (.slice e)) (hi : P.info? e = some i) (hz : i.zero = some z)
    (hsize : i.size = 1) (hby : i.bytes = bytes) (hzs : z.cells.size = 1)
    (v : Value) (n : Nat) (xs : List Value) (hs : a.eval s = v) (hown : w.ownsRow base e 1 v n xs)
    (S : Nat → Prop) (A : Option Addr) (m c : Nat) (l : List Int) (hx : a.eval x = .slice A m c) (hr : Txt w S A m c l)
    (h63 : n + m ≤ maxLen) (hbytes : (n + m) * bytes ≤ 140737488355328) (hbase : base ≤ w.heap.size)
    (h : ∀ v' w', w'.ownsRow base e 1 v' (n + m) (xs ++ nums l) → w.grownBy w' v.ownBlock → (v'.ownBlock = v.ownBlock ∨ v'.ownBlock = some w.heap.size) → wpList P ops Q rest (a.put o.dst v') w') : wpList P ops Q (o :: rest) a w :=
  wpList_plain hgd fun _ hK => wp_append_txt w s x t ho base e i z bytes ht hi hz hsize hby hzs v n xs hs hown S A m c l hx hr h63 hbytes hbase fun v' w' h2 h3 h4 => hK _ _ (h v' w' h2 h3 h4)
theorem u8_info : (Try.prog.info? 5).map (fun i => (i.zero, i.size, i.bytes)) = some (some (.int .u8 0), 1, 1) := by kernel_rfl

/-- Block g is just the cells cs, of type t. -/
def Whole (w : World) (g : Nat) (t : TypeId) (cs : Array Value) : Prop := w.heap[g]? = some (.cells cs t (0, 0))
section
variable {w w' : World} {g : Nat} {t : TypeId} {cs : Array Value}
theorem Whole.lt (h : Whole w g t cs) : g < w.heap.size := (Array.getElem?_eq_some_iff.1 h).1
theorem Whole.cell (h : Whole w g t cs) (i : Nat) : w.cell? ⟨g, i, none⟩ = cs[i]? := cell_of_row w g i cs t (0, 0) h
theorem Whole.frozen (h : Whole w g t cs) (i : Nat) : w.frozen? ⟨g, i, none⟩ = false := frozen_of_row w g i cs t h
theorem Whole.keep (h : Whole w g t cs) (hk : w'.heap[g]? = w.heap[g]?) : Whole w' g t cs := hk.trans h
theorem Whole.new (w : World) (t : TypeId) (cs : Array Value) : Whole (w.alloc (.cells cs t)) w.heap.size t cs := heap_alloc_new w _
theorem Whole.alloc (h : Whole w g t cs) (o : Obj) : Whole (w.alloc o) g t cs := h.keep (Below.heap_alloc w o g h.lt)
theorem Whole.set (h : Whole w g t cs) (i : Nat) (u : Value) : Whole (w.setCell ⟨g, i, none⟩ u) g t (cs.setIfInBounds i u) := heap_setCell_same w g i cs t u h
theorem Whole.far (h : Whole w g t cs) {p : Addr} (hp : g ≠ p.block) (u : Value) : Whole (w.setCell p u) g t cs := h.keep (Below.heap_setCell w p u g hp)
theorem Whole.below {B : Nat} (h : Whole w g t cs) (hb : Below B w w') (hg : g < B) : Whole w' g t cs := h.keep (hb.block g hg)
theorem Whole.grown {row : Option Nat} (h : Whole w g t cs) (hb : w.grownBy w' row) (hg : some g ≠ row) : Whole w' g t cs := h.keep (hb.block g h.lt hg)
theorem Whole.row (h : Whole w g t cs) (cs' : Array Value) : Whole (w.setRow g cs') g t cs' := setRow_heap w g cs cs' t (0, 0) h
theorem Whole.rowFar {b : Nat} (h : Whole w g t cs) (hg : g ≠ b) (cs' : Array Value) : Whole (w.setRow b cs') g t cs := (setRow_other w b g cs' hg).trans h
theorem Whole.range (h : Whole w g t cs) (o n : Nat) : w.rangeAt g o (cs.extract o (o + n)).toList := World.rangeAt_of_block h o n
end
theorem below_row {B g : Nat} {a w : World} (h : Below B a w) (hg : B ≤ g) (cs : Array Value) : Below B a (w.setRow g cs) :=
  h.trans ⟨rfl, rfl, rfl, by simp [World.setRow], fun k hk => setRow_other w g k cs (by omega)⟩
theorem below_alloc (w : World) (o : Obj) : Below w.heap.size w (w.alloc o) := (Below.refl _ _).alloc (Nat.le_refl _) _
theorem size_alloc (w : World) (o : Obj) : (w.alloc o).heap.size = w.heap.size + 1 := by simp
theorem below_drew {w w1 : World} (h : Below w.drew.heap.size w.drew w1) : Below w.heap.size w w1 := ⟨h.os, h.tape, h.output, h.size, h.block⟩
theorem below_drewN {B : Nat} {a w : World} (h : Below B a w) (n : Nat) : Below B a (w.drewN n) := ⟨h.os, h.tape, h.output, h.size, h.block⟩
theorem results_one_cell {fn : Func} {p : Tmp} {ty : TypeId} (h : fn.results = #[.cell p ty]) (tmps : Array Value) (P : Program) (w : World) (a : Addr) {v : Value} (ht : tmps.getD p undef = .pointer (some a)) (hv : (loadVar ty a).run P w = .ok v w) :
    (results fn tmps).run P w = .ok v w := by
  simp only [results, h]
  simp only [Array.getD_eq_getD_getElem?] at ht
  simp [ht, hv, asAddr]
/-- Bytes in the middle of a block that is known. -/
theorem txt_of_whole {w : World} {g : Nat} {t : TypeId} {l : List Int} (S : Nat → Prop) (hS : S g) (h : Whole w g t (nums l).toArray) (hb : Byt l) (k c : Nat) (hk : k ≤ l.length) (hc : k ≤ c) : Txt w S (some ⟨g, 0, none⟩) k c (l.take k) := by
  refine ⟨by simp; omega, hc, byt_take hb k, Or.inr ⟨g, 0, rfl, hS, h.lt, fun j hj => ?_⟩⟩
  rw [h.cell, Nat.zero_add, List.getElem?_toArray, nums_get _ _ (by omega)]
  have : j < l.length := by omega
  simp [this, hj]
end Go.Proofs.Ytdfmfjahnnifnaa
namespace Go.Proofs.Ytdfmfjahnnifnaa
set_option maxRecDepth 20000
open Go.RowKit
def num (x : BitVec 32) : Int := x.toNat
theorem num_lo (x : BitVec 32) : 0 ≤ num x := by simp [num]
theorem num_hi (x : BitVec 32) : num x ≤ 4294967295 := by have := x.isLt; unfold num; omega
theorem num_ofInt (x : BitVec 32) : BitVec.ofInt 32 (num x) = x := by simp [num]
theorem num_wrap (z : BitVec 32) : IntKind.u32.wrap (z.toNat : Int) = num z := by have := z.isLt; rw [IntKind.wrap_u32']; unfold num; omega
theorem num_xor (x y : BitVec 32) : bits .xor .u32 (num x) (num y) = num (x ^^^ y) := by
  simp only [bits, IntKind.bits, num_ofInt]; exact num_wrap _
theorem num_and (x y : BitVec 32) : bits .and .u32 (num x) (num y) = num (x &&& y) := by
  simp only [bits, IntKind.bits, num_ofInt]; exact num_wrap _
theorem num_or (x y : BitVec 32) : bits .or .u32 (num x) (num y) = num (x ||| y) := by
  simp only [bits, IntKind.bits, num_ofInt]; exact num_wrap _
theorem num_not (x : BitVec 32) : bits .xor .u32 4294967295 (num x) = num (~~~x) := by
  have h : (4294967295 : Int) = num (BitVec.allOnes 32) := by rfl
  rw [h, num_xor, BitVec.allOnes_xor]
theorem num_add (x y : BitVec 32) : (num x + num y) % 4294967296 = num (x + y) := by
  unfold num; rw [BitVec.toNat_add]; omega
theorem num_shr (x : BitVec 32) (n : Nat) : num x / 2 ^ n = num (x >>> n) := by
  unfold num; rw [BitVec.toNat_ushiftRight, Nat.shiftRight_eq_div_pow]; simp
theorem num_rot (x : BitVec 32) (n m : Nat) (h : n + m = 32) (h0 : 0 < n) (h1 : 0 < m) : bits .or .u32 (num x * 2 ^ m % 4294967296) (num x / 2 ^ n) = num (x.rotateRight n) := by
  have e1 : num x * 2 ^ m % 4294967296 = num (x <<< m) := by
    unfold num; rw [BitVec.toNat_shiftLeft, Nat.shiftLeft_eq]; simp
  rw [e1, num_shr, num_or, BitVec.or_comm]
  congr 1
  rw [BitVec.rotateRight_def]
  have : n % 32 = n := by omega
  rw [this]
  congr 2
  omega
theorem ret_u32 {a b : Int} (h : a = b) : Ending.returned (.int .u32 a) = .returned (.int .u32 b) := by rw [h]
/-- Words as cells. -/
def wds (l : List (BitVec 32)) : List Value := l.map fun x => .int .u32 (num x)
theorem wds_len (l : List (BitVec 32)) : (wds l).length = l.length := by simp [wds]
theorem wds_get (l : List (BitVec 32)) (k : Nat) (h : k < l.length) : (wds l)[k]? = some (.int .u32 (num (l.getD k 0))) := by simp [wds, h]
theorem wds_one (l : List (BitVec 32)) : ∀ u ∈ wds l, u.oneCell' = true := by
  intro u hu
  obtain ⟨x, _, rfl⟩ := List.mem_map.1 hu
  rfl
theorem all_wds (l : List (BitVec 32)) : (wds l).toArray.all (·.oneCell') = true := Array.all_eq_true_iff_forall_mem.2 (fun v hv => wds_one l v (by simpa using hv))

end Go.Proofs.Ytdfmfjahnnifnaa
namespace Go.Proofs.Ytdfmfjahnnifnaa
set_option maxRecDepth 20000
open Go.RowKit
def zeros32 (n : Nat) : List (BitVec 32) := List.replicate n 0
theorem num_wadd (x y : BitVec 32) : IntKind.u32.wrap (num x + num y) = num (x + y) := by rw [IntKind.wrap_u32']; exact num_add x y
theorem zero64 : #[Value.int IntKind.u32 0, Value.int IntKind.u32 0, Value.int IntKind.u32 0, Value.int IntKind.u32 0, Value.int IntKind.u32 0, Value.int IntKind.u32 0, Value.int IntKind.u32 0, Value.int IntKind.u32 0, Value.int IntKind.u32 0, Value.int IntKind.u32 0, Value.int IntKind.u32 0, Value.int IntKind.u32 0, Value.int IntKind.u32 0, Value.int IntKind.u32 0, Value.int IntKind.u32 0, Value.int IntKind.u32 0, Value.int IntKind.u32 0, Value.int IntKind.u32 0, Value.int IntKind.u32 0, Value.int IntKind.u32 0, Value.int IntKind.u32 0, Value.int IntKind.u32 0, Value.int IntKind.u32 0, Value.int IntKind.u32 0, Value.int IntKind.u32 0, Value.int IntKind.u32 0, Value.int IntKind.u32 0, Value.int IntKind.u32 0, Value.int IntKind.u32 0, Value.int IntKind.u32 0, Value.int IntKind.u32 0, Value.int IntKind.u32 0, Value.int IntKind.u32 0, Value.int IntKind.u32 0, Value.int IntKind.u32 0, Value.int IntKind.u32 0, Value.int IntKind.u32 0, Value.int IntKind.u32 0, Value.int IntKind.u32 0, Value.int IntKind.u32 0, Value.int IntKind.u32 0, Value.int IntKind.u32 0, Value.int IntKind.u32 0, Value.int IntKind.u32 0, Value.int IntKind.u32 0, Value.int IntKind.u32 0, Value.int IntKind.u32 0, Value.int IntKind.u32 0, Value.int IntKind.u32 0, Value.int IntKind.u32 0, Value.int IntKind.u32 0, Value.int IntKind.u32 0, Value.int IntKind.u32 0, Value.int IntKind.u32 0, Value.int IntKind.u32 0, Value.int IntKind.u32 0, Value.int IntKind.u32 0, Value.int IntKind.u32 0, Value.int IntKind.u32 0, Value.int IntKind.u32 0, Value.int IntKind.u32 0, Value.int IntKind.u32 0, Value.int IntKind.u32 0, Value.int IntKind.u32 0] = (wds (zeros32 64)).toArray := rfl
theorem word_or (x0 x1 x2 x3 : Int) (h0 : 0 ≤ x0 ∧ x0 < 256) (h1 : 0 ≤ x1 ∧ x1 < 256) (h2 : 0 ≤ x2 ∧ x2 < 256) (h3 : 0 ≤ x3 ∧ x3 < 256) :
    bits .or .u32 (bits .or .u32 (bits .or .u32 (IntKind.u32.wrap (IntKind.u32.wrap x0 * 16777216)) (IntKind.u32.wrap (IntKind.u32.wrap x1 * 65536))) (IntKind.u32.wrap (IntKind.u32.wrap x2 * 256))) (IntKind.u32.wrap x3) =
      num (BitVec.ofInt 32 (x0 * 16777216 + x1 * 65536 + x2 * 256 + x3)) := by
  obtain ⟨n0, rfl⟩ := Int.eq_ofNat_of_zero_le h0.1
  obtain ⟨n1, rfl⟩ := Int.eq_ofNat_of_zero_le h1.1
  obtain ⟨n2, rfl⟩ := Int.eq_ofNat_of_zero_le h2.1
  obtain ⟨n3, rfl⟩ := Int.eq_ofNat_of_zero_le h3.1
  simp only [IntKind.wrap_u32']
  rw [show ((n0 : Int) % 4294967296 * 16777216 % 4294967296) = ((n0 * 16777216 : Nat) : Int) by omega, show ((n1 : Int) % 4294967296 * 65536 % 4294967296) = ((n1 * 65536 : Nat) : Int) by omega,
    show ((n2 : Int) % 4294967296 * 256 % 4294967296) = ((n2 * 256 : Nat) : Int) by omega, show ((n3 : Int) % 4294967296) = ((n3 : Nat) : Int) by omega]
  rw [u32_or_nat _ _ (by omega) (by omega), nat_join 24 _ _ (by omega) (by omega), u32_or_nat _ _ (by omega) (by omega), nat_join 16 _ _ (by omega) (by omega), u32_or_nat _ _ (by omega) (by omega), nat_join 8 _ _ (by omega) (by omega)]
  have : (n0 : Int) * 16777216 + (n1 : Int) * 65536 + (n2 : Int) * 256 + (n3 : Int) = ((n0 * 16777216 + n1 * 65536 + n2 * 256 + n3 : Nat) : Int) := by omega
  rw [this]
  unfold num
  rw [BitVec.ofInt_natCast, BitVec.toNat_ofNat]
  congr 1
  omega
theorem wds_set (l r : List (BitVec 32)) (x y : BitVec 32) (k : Nat) (hk : l.length = k) : (wds (l ++ y :: r)).toArray.setIfInBounds k (.int .u32 (num x)) = (wds (l ++ x :: r)).toArray := by
  subst hk
  simp [wds]
theorem w16_len (b : List Int) (k : Nat) : (Sm.w16 b k).length = k := by simp [Sm.w16]
theorem w16_set (b : List Int) (k : Nat) (hk : k < 16) : (wds (Sm.w16 b k ++ zeros32 (64 - k))).toArray.setIfInBounds k (.int .u32 (num (Sm.wd b k))) = (wds (Sm.w16 b (k + 1) ++ zeros32 (64 - (k + 1)))).toArray := by
  have e : zeros32 (64 - k) = 0 :: zeros32 (64 - (k + 1)) := by
    unfold zeros32
    rw [show 64 - k = (64 - (k + 1)) + 1 by omega, List.replicate_succ]
  rw [e, wds_set _ _ _ _ _ (w16_len b k)]
  congr 2
  simp [Sm.w16, List.range_succ]
theorem wTo_len (b : List Int) (k : Nat) : (Sm.wTo b k).length = 16 + k := by
  induction k with
  | zero => exact w16_len b 16
  | succ k ih => simp [Sm.wTo, ih]; omega
theorem wTo_set (b : List Int) (k : Nat) (hk : k < 48) : (wds (Sm.wTo b k ++ zeros32 (48 - k))).toArray.setIfInBounds (16 + k) (.int .u32 (num (Sm.nextW (Sm.wTo b k) (16 + k)))) = (wds (Sm.wTo b (k + 1) ++ zeros32 (48 - (k + 1)))).toArray := by
  have e : zeros32 (48 - k) = 0 :: zeros32 (48 - (k + 1)) := by
    unfold zeros32
    rw [show 48 - k = (48 - (k + 1)) + 1 by omega, List.replicate_succ]
  rw [e, wds_set _ _ _ _ _ (wTo_len b k)]
  congr 2
  simp [Sm.wTo]
end Go.Proofs.Ytdfmfjahnnifnaa
namespace Go.Proofs.Ytdfmfjahnnifnaa
set_option maxRecDepth 20000
open Go.RowKit
/-- The two tables, as they are laid. -/
def Roots (w : World) : Prop := (∃ t fr, w.heap[0]? = some (.cells (wds Sm.rH).toArray t fr)) ∧ ∃ t fr, w.heap[1]? = some (.cells (wds Sm.rK).toArray t fr)
theorem Roots.two {w : World} (h : Roots w) : 1 < w.heap.size := by obtain ⟨_, _, _, h⟩ := h; exact (Array.getElem?_eq_some_iff.1 h).1
theorem Roots.keep {w w' : World} (h : Roots w) (hk : ∀ b, b < 2 → w'.heap[b]? = w.heap[b]?) : Roots w' := by
  obtain ⟨⟨t, fr, h0⟩, ⟨t', fr', h1⟩⟩ := h
  exact ⟨⟨t, fr, (hk 0 (by omega)).trans h0⟩, ⟨t', fr', (hk 1 (by omega)).trans h1⟩⟩
theorem Roots.below {w w' : World} {B : Nat} (h : Roots w) (hb : Below B w w') (hB : 2 ≤ B) : Roots w' := h.keep fun b hlt => hb.block b (by omega)
theorem Roots.alloc {w : World} (h : Roots w) (o : Obj) : Roots (w.alloc o) := h.below (below_alloc w o) h.two
theorem Roots.grown {w w' : World} {row : Option Nat} (h : Roots w) (hg : w.grownBy w' row) (hr : ∀ b, row = some b → 2 ≤ b) : Roots w' := h.keep fun b hlt => hg.block b (by have := h.two; omega) (fun e => by have := hr b e.symm; omega)
theorem Roots.k {w : World} (h : Roots w) (t : Nat) (ht : t < 64) : w.cell? ⟨1, t, none⟩ = some (.int .u32 (num (Sm.rK.getD t 0))) := by
  obtain ⟨_, ⟨t', fr', h1⟩⟩ := h
  rw [cell_of_row w 1 t _ _ _ h1, List.getElem?_toArray, wds_get _ _ (by show t < 64; exact ht)]
theorem zero8 : #[Value.int IntKind.u32 0, Value.int IntKind.u32 0, Value.int IntKind.u32 0, Value.int IntKind.u32 0, Value.int IntKind.u32 0, Value.int IntKind.u32 0, Value.int IntKind.u32 0, Value.int IntKind.u32 0] = (wds (zeros32 8)).toArray := rfl
theorem st_cells (s : Sm.St) : (wds s.l).toArray = #[.int .u32 (num s.a), .int .u32 (num s.b), .int .u32 (num s.c), .int .u32 (num s.d), .int .u32 (num s.e), .int .u32 (num s.f), .int .u32 (num s.g), .int .u32 (num s.h)] := rfl
/-- Eight slots that hold a state. -/
def StAt (s : Sm.St) (va vb vc vd ve vf vg vh : Value) : Prop := va = .int .u32 (num s.a) ∧ vb = .int .u32 (num s.b) ∧ vc = .int .u32 (num s.c) ∧ vd = .int .u32 (num s.d) ∧ ve = .int .u32 (num s.e) ∧ vf = .int .u32 (num s.f) ∧ vg = .int .u32 (num s.g) ∧ vh = .int .u32 (num s.h)
theorem num_t1 (h e c k x : BitVec 32) : ((num h + num e + num c + num k) % 4294967296 + num x) % 4294967296 = num (h + e + c + k + x) := by
  rw [← num_add, ← num_add, ← num_add, ← num_add]; omega
theorem val_u32 {a b : Int} (h : a = b) : Value.int .u32 a = .int .u32 b := by rw [h]
theorem part_u32 {x : List (BitVec 32)} {i : Nat} (h : i < x.length) (w : World) : (part 90 (wds x).toArray i).run Try.prog w = .ok (.int .u32 (num (x.getD i 0))) w := by
  have ha : (isAgg 90).run Try.prog w = .ok false w := by
    unfold isAgg
    rw [Sem.run_bind, run_underlying Try.underlying90 w]
    rfl
  unfold part
  rw [Sem.run_bind, ha]
  simp only [Result.andThen_ok, Bool.false_eq_true, if_false, List.getElem?_toArray, wds_get x i h]
  rfl
theorem sz_u32 (w : World) : (sizeOf 90).run Try.prog w = .ok 1 w := by
  have h : (Try.prog.info? 90).map (·.size) = some 1 := by kernel_rfl
  cases hq : Try.prog.info? 90 with
  | none => rw [hq] at h; cases h
  | some i =>
    rw [hq] at h
    simp only [Option.map_some, Option.some.injEq] at h
    simp [sizeOf, typeInfo, hq, h]
theorem mix_get (a c : List (BitVec 32)) (k : Nat) (ha : a.length = 8) (hk : k < 8) : (a.take k ++ c.drop k).getD k 0 = c.getD k 0 := by
  have : (a.take k).length = k := by simp; omega
  simp [List.getElem?_append_right, this]
theorem mix_set (s r : Sm.St) (k : Nat) (hk : k < 8) : (wds ((Sm.plus s r).l.take k ++ s.l.drop k)).toArray.setIfInBounds k (.int .u32 (num (s.l.getD k 0 + r.l.getD k 0))) = (wds ((Sm.plus s r).l.take (k + 1) ++ s.l.drop (k + 1))).toArray := by
  match k, hk with
  | 0, _ => rfl
  | 1, _ => rfl
  | 2, _ => rfl
  | 3, _ => rfl
  | 4, _ => rfl
  | 5, _ => rfl
  | 6, _ => rfl
  | 7, _ => rfl
theorem sched_len (b : List Int) : (Sm.sched b).length = 64 := by rw [Sm.sched, wTo_len]
end Go.Proofs.Ytdfmfjahnnifnaa
namespace Go.Proofs.Ytdfmfjahnnifnaa
namespace Sm
theorem stTo_append (l m : List Int) (k : Nat) (h : 64 * k ≤ l.length) : stTo (l ++ m) k = stTo l k := by
  induction k with
  | zero => rfl
  | succ k ih =>
    simp only [stTo]
    rw [ih (by omega), List.drop_append_of_le_length (by omega), List.take_append_of_le_length (by rw [List.length_drop]; omega)]
theorem st_same (l x : List Int) (h : l.length % 64 + x.length < 64) : st (l ++ x) = st l := by
  unfold st
  have e : (l ++ x).length / 64 = l.length / 64 := by rw [List.length_append]; omega
  rw [e, stTo_append _ _ _ (by omega)]
theorem st_full (l x : List Int) (h : l.length % 64 + x.length = 64) : st (l ++ x) = mix (st l) (l.drop (64 * (l.length / 64)) ++ x) := by
  unfold st
  have e : (l ++ x).length / 64 = l.length / 64 + 1 := by rw [List.length_append]; omega
  rw [e]
  simp only [stTo]
  rw [stTo_append _ _ _ (by omega), List.drop_append_of_le_length (by omega), List.take_of_length_le (by rw [List.length_append, List.length_drop]; omega)]
/-- The block that a text is in: bf begins with what stands behind the whole blocks. -/
def InBlock (bf l : List Int) : Prop := bf.length = 64 ∧ bf.take (l.length % 64) = l.drop (64 * (l.length / 64))
def laid (bf : List Int) (r : Nat) (x : List Int) : List Int := bf.take r ++ (x ++ bf.drop (r + x.length))
theorem laid_len {bf x : List Int} {r : Nat} (h : bf.length = 64) (hr : r + x.length ≤ 64) : (laid bf r x).length = 64 := by
  simp [laid]; omega
theorem laid_take {bf x : List Int} {r : Nat} (h : bf.length = 64) (hr : r + x.length ≤ 64) : (laid bf r x).take (r + x.length) = bf.take r ++ x := by
  unfold laid
  have e : (bf.take r).length = r := by simp; omega
  rw [← List.append_assoc, List.take_append_of_le_length (by simp; omega), List.take_of_length_le (by simp; omega)]
theorem inBlock_same {bf l x : List Int} (h : InBlock bf l) (hx : l.length % 64 + x.length < 64) : InBlock (laid bf (l.length % 64) x) (l ++ x) := by
  refine ⟨laid_len h.1 (by omega), ?_⟩
  have e : (l ++ x).length / 64 = l.length / 64 := by rw [List.length_append]; omega
  have e2 : (l ++ x).length % 64 = l.length % 64 + x.length := by rw [List.length_append]; omega
  rw [e, e2, laid_take h.1 (by omega), h.2, List.drop_append_of_le_length (by omega)]
theorem inBlock_full {bf l x : List Int} (h : InBlock bf l) (hx : l.length % 64 + x.length = 64) : InBlock (laid bf (l.length % 64) x) (l ++ x) ∧ st (l ++ x) = mix (st l) (laid bf (l.length % 64) x) := by
  have hl := laid_len (x := x) h.1 (r := l.length % 64) (by omega)
  have e2 : (l ++ x).length % 64 = 0 := by rw [List.length_append]; omega
  refine ⟨⟨hl, ?_⟩, ?_⟩
  · rw [e2, List.take_zero, List.drop_eq_nil_of_le (by omega)]
  · rw [st_full _ _ hx, ← h.2]
    congr 1
    have := laid_take (x := x) h.1 (r := l.length % 64) (by omega)
    rw [hx, List.take_of_length_le (by omega)] at this
    exact this.symm
theorem inBlock_nil {bf : List Int} (h : bf.length = 64) : InBlock bf [] := ⟨h, by simp⟩
theorem st_nil : st [] = h0 := rfl
end Sm
end Go.Proofs.Ytdfmfjahnnifnaa
namespace Go.Proofs.Ytdfmfjahnnifnaa
set_option maxRecDepth 20000
open Go.RowKit
/-- The cells of a digest. -/
def dcells (s : Sm.St) (bf : List Int) (n : Nat) : List Value := wds s.l ++ (nums bf ++ [.int .u64 (n : Int)])
theorem dcells_size (s : Sm.St) (bf : List Int) (n : Nat) (h : bf.length = 64) : (dcells s bf n).length = 73 := by simp [dcells, wds_len, nums_len, h, Sm.St.l]
theorem dcells_72 (s : Sm.St) (bf : List Int) (n : Nat) (h : bf.length = 64) : (dcells s bf n)[72]? = some (.int .u64 (n : Int)) := by
  have e : (wds s.l).length = 8 := rfl
  unfold dcells
  rw [List.getElem?_append_right (by rw [e]; omega), e, List.getElem?_append_right (by rw [nums_len]; omega), nums_len, h]
  rfl
theorem infou8 : (Try.prog.info? 5).map (·.size) = some 1 := by kernel_rfl
theorem dcells_splice (s : Sm.St) (bf x : List Int) (n r : Nat) {j : Nat} (h : bf.length = 64) (hx : x.length = j) (hr : r + j ≤ 64) :
    (List.take (8 + r) (dcells s bf n) ++ (nums x ++ List.drop (8 + r + j) (dcells s bf n))).toArray = (dcells s (Sm.laid bf r x) n).toArray := by
  have e : (wds s.l).length = 8 := rfl
  unfold dcells Sm.laid
  rw [List.take_append, List.drop_append, e, List.take_of_length_le (by omega), List.drop_eq_nil_of_le (by omega), Nat.add_sub_cancel_left, show 8 + r + j - 8 = r + j by omega]
  rw [List.take_append_of_le_length (by rw [nums_len]; omega), List.drop_append_of_le_length (by rw [nums_len]; omega)]
  simp [nums_append, nums_take, nums_drop, hx]
theorem dcells_set (s : Sm.St) (bf : List Int) (n m : Nat) (h : bf.length = 64) : (dcells s bf n).toArray.setIfInBounds 72 (.int .u64 ((n : Int) + (m : Int))) = (dcells s bf (n + m)).toArray := by
  have e : (wds s.l).length = 8 := rfl
  unfold dcells
  rw [List.setIfInBounds_toArray]
  congr 1
  rw [List.set_append_right _ _ (by rw [e]; omega), e, List.set_append_right _ _ (by rw [nums_len]; omega), nums_len, h]
  rfl
theorem grown_trans {a b c : World} {row : Option Nat} (h : a.grownBy b row) (h' : b.grownBy c row) : a.grownBy c row :=
  ⟨h'.os.trans h.os, h'.tape.trans h.tape, h'.output.trans h.output, Nat.le_trans h.size h'.size, fun k hk hne => (h'.block k (Nat.lt_of_lt_of_le hk h.size) hne).trans (h.block k hk hne)⟩
theorem grown_set {a b : World} {g : Nat} (h : a.grownBy b (some g)) (i : Nat) (v : Value) : a.grownBy (b.setCell ⟨g, i, none⟩ v) (some g) :=
  grown_trans h ⟨rfl, rfl, rfl, by simp [World.setCell], fun k _ hne => Below.heap_setCell b ⟨g, i, none⟩ v k (fun e => hne (by rw [e]))⟩
theorem if_wanted {c : Bool} {p q : Prop} (h : c = true) (hp : p) : if c = true then p else q := by rw [if_pos h]; exact hp
theorem run_store_part {P : Program} (w : World) (g o : Nat) (n ty : TypeId) (cur cells : List Value) (hg : Whole w g n cur.toArray) (hi : (P.info? ty).map (·.size) = some cells.length) (h1 : ∀ v ∈ cells, v.oneCell' = true) (hf : o + cells.length ≤ cur.length) :
    (storeVar ty ⟨g, o, none⟩ (.agg cells.toArray)).run P w = .ok () (w.setRow g (splice cur o cells).toArray) := by
  have := run_storeCells_at (P := P) g o n cells 0 cur.toArray w hg (by simp; omega) h1
  cases hq : P.info? ty with
  | none => simp [hq] at hi
  | some i =>
    have hs : cells.length = i.size := by simp [hq] at hi; omega
    simp only [Nat.add_zero] at this
    simp [storeVar, sizeOf, typeInfo, hq, Value.cells, hs, this, splice]
theorem wp_store_part {P : Program} {op : Oper} {a : Act} {w : World} {K : Act → World → Prop} {Q : Exit → Act → World → Prop} {n : TypeId} {cur : List Value} (ty : TypeId) (x y : Operand) (ho : op.op = .store ty x y)
    (g o : Nat) (cells : List Value) (hx : a.eval x = .pointer (some ⟨g, o, none⟩)) (hy : a.eval y = .agg cells.toArray)
    (hg : Whole w g n cur.toArray) (hi : (P.info? ty).map (·.size) = some cells.length) (h1 : ∀ v ∈ cells, v.oneCell' = true) (hf : o + cells.length ≤ cur.length)
    (h : K (a.put op.dst undef) (w.setRow g (splice cur o cells).toArray)) : Oper.wp P op a w K Q := by
  unfold Oper.wp execOp
  simp only [ho, hx, hy, Instr.storeAt, Instr.sureAddr, Sem.run_bind, Sem.run_pure, Result.andThen_ok, run_store_part w g o n ty cur cells hg hi h1 hf]
  exact h
theorem dcells_state (s s' : Sm.St) (bf : List Int) (n : Nat) : (splice (dcells s bf n) 0 (wds s'.l)) = dcells s' bf n := by
  have e : (wds s.l).length = 8 := rfl
  have e' : (wds s'.l).length = 8 := rfl
  unfold splice dcells
  rw [List.take_zero, List.nil_append, e', Nat.zero_add, List.drop_append_of_le_length (by omega), List.drop_eq_nil_of_le (by omega), List.nil_append]
theorem grown_below {a b : World} {row : Option Nat} (h : Below a.heap.size a b) : a.grownBy b row := ⟨h.os, h.tape, h.output, h.size, fun k hk _ => h.block k hk⟩
theorem grown_row (w : World) (g : Nat) (cs : Array Value) : w.grownBy (w.setRow g cs) (some g) := ⟨rfl, rfl, rfl, by simp [World.setRow], fun i _ hne => setRow_other w g i _ (fun e => hne (by rw [e]))⟩
end Go.Proofs.Ytdfmfjahnnifnaa
namespace Go.Proofs.Ytdfmfjahnnifnaa
set_option maxRecDepth 20000
open Go.RowKit
theorem byte0 (x : BitVec 32) : num x / 16777216 % 256 = Sm.byteOf x 0 := by unfold num Sm.byteOf; simp
theorem byte1 (x : BitVec 32) : num x / 65536 % 256 = Sm.byteOf x 1 := by unfold num Sm.byteOf; simp
theorem byte2 (x : BitVec 32) : num x / 256 % 256 = Sm.byteOf x 2 := by unfold num Sm.byteOf; simp
theorem byte3 (x : BitVec 32) : num x % 256 = Sm.byteOf x 3 := by unfold num Sm.byteOf; simp
theorem zero32 : #[Value.int IntKind.u8 0, Value.int IntKind.u8 0, Value.int IntKind.u8 0, Value.int IntKind.u8 0, Value.int IntKind.u8 0, Value.int IntKind.u8 0, Value.int IntKind.u8 0, Value.int IntKind.u8 0, Value.int IntKind.u8 0, Value.int IntKind.u8 0, Value.int IntKind.u8 0, Value.int IntKind.u8 0, Value.int IntKind.u8 0, Value.int IntKind.u8 0, Value.int IntKind.u8 0, Value.int IntKind.u8 0, Value.int IntKind.u8 0, Value.int IntKind.u8 0, Value.int IntKind.u8 0, Value.int IntKind.u8 0, Value.int IntKind.u8 0, Value.int IntKind.u8 0, Value.int IntKind.u8 0, Value.int IntKind.u8 0, Value.int IntKind.u8 0, Value.int IntKind.u8 0, Value.int IntKind.u8 0, Value.int IntKind.u8 0, Value.int IntKind.u8 0, Value.int IntKind.u8 0, Value.int IntKind.u8 0, Value.int IntKind.u8 0] = (nums (List.replicate 32 0)).toArray := rfl
theorem und32 : Try.prog.underlying 26 = some (.array 32 5) := by kernel_rfl
theorem info32 : (Try.prog.info? 26).map (·.size) = some 32 := by kernel_rfl
def sb (l : List (BitVec 32)) (k : Nat) : List Int := Sm.bytesOf (l.take k) ++ List.replicate (32 - 4 * k) 0
theorem bytesOf_len (l : List (BitVec 32)) : (Sm.bytesOf l).length = 4 * l.length := by
  induction l with
  | nil => rfl
  | cons x l ih =>
    show (([Sm.byteOf x 0, Sm.byteOf x 1, Sm.byteOf x 2, Sm.byteOf x 3] ++ Sm.bytesOf l)).length = _
    rw [List.length_append, ih, List.length_cons]
    simp; omega
theorem bytesOf_append (l m : List (BitVec 32)) : Sm.bytesOf (l ++ m) = Sm.bytesOf l ++ Sm.bytesOf m := by simp [Sm.bytesOf]
theorem byt_bytesOf (l : List (BitVec 32)) : Byt (Sm.bytesOf l) := by
  intro y hy
  obtain ⟨x, _, hx⟩ := List.mem_flatMap.1 hy
  simp only [List.mem_cons, List.not_mem_nil, or_false, Sm.byteOf] at hx
  rcases hx with h | h | h | h <;> subst h <;> omega
theorem set4 (a : List Int) (r : List Int) (k : Nat) (z0 z1 z2 z3 y0 y1 y2 y3 : Int) (ha : a.length = k) :
    ((((nums (a ++ z0 :: z1 :: z2 :: z3 :: r)).toArray.setIfInBounds k (.int .u8 y0)).setIfInBounds (k + 1) (.int .u8 y1)).setIfInBounds (k + 2) (.int .u8 y2)).setIfInBounds (k + 3) (.int .u8 y3) = (nums (a ++ y0 :: y1 :: y2 :: y3 :: r)).toArray := by
  subst ha
  have e : (nums a).length = a.length := nums_len a
  simp only [nums, List.map_append, List.map_cons, List.setIfInBounds_toArray]
  congr 1
  have e2 : (List.map (Value.int IntKind.u8) a).length = a.length := by simp
  rw [List.set_append_right _ _ (by omega), List.set_append_right _ _ (by omega), List.set_append_right _ _ (by omega), List.set_append_right _ _ (by omega), e2]
  simp only [Nat.sub_self, Nat.add_sub_cancel_left, List.set_cons_zero, List.set_cons_succ]
theorem sb_set (l : List (BitVec 32)) (k : Nat) (hl : l.length = 8) (hk : k < 8) (x : BitVec 32) (hx : l.getD k 0 = x) :
    ((((nums (sb l k)).toArray.setIfInBounds (4 * k) (.int .u8 (Sm.byteOf x 0))).setIfInBounds (4 * k + 1) (.int .u8 (Sm.byteOf x 1))).setIfInBounds (4 * k + 2) (.int .u8 (Sm.byteOf x 2))).setIfInBounds (4 * k + 3) (.int .u8 (Sm.byteOf x 3)) = (nums (sb l (k + 1))).toArray := by
  have e : List.replicate (32 - 4 * k) (0 : Int) = 0 :: 0 :: 0 :: 0 :: List.replicate (32 - 4 * (k + 1)) 0 := by
    rw [show 32 - 4 * k = (32 - 4 * (k + 1)) + 1 + 1 + 1 + 1 by omega]
    rfl
  unfold sb
  rw [e, set4 _ _ _ _ _ _ _ _ _ _ _ (by rw [bytesOf_len, List.length_take, hl]; omega)]
  congr 2
  have h2 : l.take (k + 1) = l.take k ++ [x] := by
    rw [List.take_succ_eq_append_getElem (by omega)]
    congr 2
    rw [← hx]; simp [show k < l.length by omega]
  rw [h2, bytesOf_append, List.append_assoc]
  rfl
theorem sb_len (l : List (BitVec 32)) (k : Nat) (hl : l.length = 8) (hk : k ≤ 8) : (sb l k).length = 32 := by
  simp [sb, bytesOf_len, hl]; omega
end Go.Proofs.Ytdfmfjahnnifnaa
namespace Go.Proofs.Ytdfmfjahnnifnaa
set_option maxRecDepth 20000
open Go.RowKit
def zs (n : Nat) : List Int := List.replicate n 0
theorem zs_len (n : Nat) : (zs n).length = n := by simp [zs]
theorem zero72 : #[Value.int IntKind.u8 0, Value.int IntKind.u8 0, Value.int IntKind.u8 0, Value.int IntKind.u8 0, Value.int IntKind.u8 0, Value.int IntKind.u8 0, Value.int IntKind.u8 0, Value.int IntKind.u8 0, Value.int IntKind.u8 0, Value.int IntKind.u8 0, Value.int IntKind.u8 0, Value.int IntKind.u8 0, Value.int IntKind.u8 0, Value.int IntKind.u8 0, Value.int IntKind.u8 0, Value.int IntKind.u8 0, Value.int IntKind.u8 0, Value.int IntKind.u8 0, Value.int IntKind.u8 0, Value.int IntKind.u8 0, Value.int IntKind.u8 0, Value.int IntKind.u8 0, Value.int IntKind.u8 0, Value.int IntKind.u8 0, Value.int IntKind.u8 0, Value.int IntKind.u8 0, Value.int IntKind.u8 0, Value.int IntKind.u8 0, Value.int IntKind.u8 0, Value.int IntKind.u8 0, Value.int IntKind.u8 0, Value.int IntKind.u8 0, Value.int IntKind.u8 0, Value.int IntKind.u8 0, Value.int IntKind.u8 0, Value.int IntKind.u8 0, Value.int IntKind.u8 0, Value.int IntKind.u8 0, Value.int IntKind.u8 0, Value.int IntKind.u8 0, Value.int IntKind.u8 0, Value.int IntKind.u8 0, Value.int IntKind.u8 0, Value.int IntKind.u8 0, Value.int IntKind.u8 0, Value.int IntKind.u8 0, Value.int IntKind.u8 0, Value.int IntKind.u8 0, Value.int IntKind.u8 0, Value.int IntKind.u8 0, Value.int IntKind.u8 0, Value.int IntKind.u8 0, Value.int IntKind.u8 0, Value.int IntKind.u8 0, Value.int IntKind.u8 0, Value.int IntKind.u8 0, Value.int IntKind.u8 0, Value.int IntKind.u8 0, Value.int IntKind.u8 0, Value.int IntKind.u8 0, Value.int IntKind.u8 0, Value.int IntKind.u8 0, Value.int IntKind.u8 0, Value.int IntKind.u8 0, Value.int IntKind.u8 0, Value.int IntKind.u8 0, Value.int IntKind.u8 0, Value.int IntKind.u8 0, Value.int IntKind.u8 0, Value.int IntKind.u8 0, Value.int IntKind.u8 0, Value.int IntKind.u8 0] = (nums (zs 72)).toArray := rfl
theorem zero32z : #[Value.int IntKind.u8 0, Value.int IntKind.u8 0, Value.int IntKind.u8 0, Value.int IntKind.u8 0, Value.int IntKind.u8 0, Value.int IntKind.u8 0, Value.int IntKind.u8 0, Value.int IntKind.u8 0, Value.int IntKind.u8 0, Value.int IntKind.u8 0, Value.int IntKind.u8 0, Value.int IntKind.u8 0, Value.int IntKind.u8 0, Value.int IntKind.u8 0, Value.int IntKind.u8 0, Value.int IntKind.u8 0, Value.int IntKind.u8 0, Value.int IntKind.u8 0, Value.int IntKind.u8 0, Value.int IntKind.u8 0, Value.int IntKind.u8 0, Value.int IntKind.u8 0, Value.int IntKind.u8 0, Value.int IntKind.u8 0, Value.int IntKind.u8 0, Value.int IntKind.u8 0, Value.int IntKind.u8 0, Value.int IntKind.u8 0, Value.int IntKind.u8 0, Value.int IntKind.u8 0, Value.int IntKind.u8 0, Value.int IntKind.u8 0] = (nums (zs 32)).toArray := rfl
/-- The bytes behind a text of n bytes, its number of bits written as far as k bytes. -/
def tailTo (n k : Nat) : List Int := 128 :: (zs (Sm.noughts n) ++ ((Sm.bits8 n).take k ++ zs (71 - Sm.noughts n - k)))
theorem noughts_lt (n : Nat) : Sm.noughts n < 64 := by unfold Sm.noughts; omega
theorem bits8_len (n : Nat) : (Sm.bits8 n).length = 8 := by simp [Sm.bits8]
theorem tailTo_len (n k : Nat) (hk : k ≤ 8) : (tailTo n k).length = 72 := by
  have := noughts_lt n
  simp [tailTo, bits8_len, zs_len]; omega
theorem tail_start (n : Nat) : (nums (zs 72)).toArray.setIfInBounds 0 (.int .u8 128) = (nums (tailTo n 0)).toArray := by
  have h := noughts_lt n
  have e : zs (Sm.noughts n) ++ zs (71 - Sm.noughts n) = zs 71 := by
    unfold zs
    rw [List.replicate_append_replicate]
    congr 1
    omega
  unfold tailTo
  rw [List.take_zero, List.nil_append, Nat.sub_zero, e]
  rfl
theorem bits8_get (n k : Nat) (hk : k < 8) : (Sm.bits8 n).getD k 0 = ((8 * n / 2 ^ (56 - 8 * k) % 256 : Nat) : Int) := by
  simp [Sm.bits8, hk]
theorem byt_bits8 (n : Nat) : Byt (Sm.bits8 n) := by
  intro y hy
  simp only [Sm.bits8, List.mem_map] at hy
  obtain ⟨i, _, rfl⟩ := hy
  omega
theorem byt_tailTo (n k : Nat) : Byt (tailTo n k) := byt_cons (by omega) (by omega) (byt_append (byt_zeros _) (byt_append (byt_take (byt_bits8 n) k) (byt_zeros _)))
theorem nums_set (a r : List Int) (x y : Int) (k : Nat) (hk : a.length = k) : (nums (a ++ y :: r)).toArray.setIfInBounds k (.int .u8 x) = (nums (a ++ x :: r)).toArray := by
  subst hk
  simp [nums]
theorem tail_set (n k z : Nat) (hz : Sm.noughts n = z) (hk : k < 8) : (nums (tailTo n k)).toArray.setIfInBounds (1 + z + k) (.int .u8 (8 * (n : Int) / 2 ^ (8 * (7 - k)) % 256)) = (nums (tailTo n (k + 1))).toArray := by
  have h := noughts_lt n
  have e : zs (71 - z - k) = 0 :: zs (71 - z - (k + 1)) := by
    unfold zs
    rw [show 71 - z - k = (71 - z - (k + 1)) + 1 by omega, List.replicate_succ]
  have e2 : tailTo n k = (128 :: (zs z ++ (Sm.bits8 n).take k)) ++ 0 :: zs (71 - z - (k + 1)) := by
    unfold tailTo
    rw [hz, e]
    simp
  have e3 : tailTo n (k + 1) = (128 :: (zs z ++ (Sm.bits8 n).take k)) ++ (Sm.bits8 n).getD k 0 :: zs (71 - z - (k + 1)) := by
    unfold tailTo
    have : k < (Sm.bits8 n).length := by rw [bits8_len]; omega
    have hk1 : (Sm.bits8 n).take (k + 1) = (Sm.bits8 n).take k ++ [(Sm.bits8 n).getD k 0] := by
      rw [List.take_succ_eq_append_getElem this]
      simp [this]
    rw [hz, hk1]
    simp
  rw [e2, e3, bits8_get n k hk]
  have e4 : 8 * (n : Int) / 2 ^ (8 * (7 - k)) % 256 = ((8 * n / 2 ^ (56 - 8 * k) % 256 : Nat) : Int) := by
    rw [show 8 * (7 - k) = 56 - 8 * k by omega]
    simp
  rw [e4]
  refine nums_set _ _ _ _ _ ?_
  simp [zs_len, bits8_len]
  omega
theorem tail_end (n z : Nat) (hz : Sm.noughts n = z) : (tailTo n 8).take (1 + z + 8) = Sm.tail n := by
  have e : tailTo n 8 = Sm.tail n ++ zs (71 - z - 8) := by
    unfold tailTo Sm.tail
    rw [hz, List.take_of_length_le (by rw [bits8_len]; omega)]
    simp [zs]
  have e2 : (Sm.tail n).length = 1 + z + 8 := by
    simp [Sm.tail, hz, bits8_len]; omega
  rw [e, ← e2, List.take_left]
theorem sz_u8 (w : World) : (sizeOf 5).run Try.prog w = .ok 1 w := by
  cases hq : Try.prog.info? 5 with
  | none => have := infou8; rw [hq] at this; cases this
  | some i =>
    have := infou8
    rw [hq] at this
    simp only [Option.map_some, Option.some.injEq] at this
    simp [sizeOf, typeInfo, hq, this]
theorem grown_rowNew {a b : World} {row : Option Nat} {g : Nat} (h : a.grownBy b row) (hg : a.heap.size ≤ g) (cs : Array Value) : a.grownBy (b.setRow g cs) row :=
  ⟨h.os, h.tape, h.output, by simpa [World.setRow] using h.size, fun k hk hne => (setRow_other b g k cs (by omega)).trans (h.block k hk hne)⟩
end Go.Proofs.Ytdfmfjahnnifnaa
namespace Go.Proofs.Ytdfmfjahnnifnaa
set_option maxRecDepth 20000
open Go.RowKit
/-- The slice a, n of texts holds ps; all of it in blocks of S. -/
def Parts (w : World) (S : Nat → Prop) (a : Option Addr) (n : Nat) (ps : List (List Int)) : Prop :=
  ps.length = n ∧ (ps = [] ∨ ∃ b off, a = some ⟨b, off, none⟩ ∧ S b ∧ b < w.heap.size ∧ ∀ k, k < n → ∃ a' n' c', w.cell? ⟨b, off + k, none⟩ = some (.slice a' n' c') ∧ Txt w S a' n' c' (ps.getD k []))
section
variable {w w' : World} {S S' : Nat → Prop} {a : Option Addr} {n : Nat} {ps : List (List Int)}
theorem Parts.keep (h : Parts w S a n ps) (hz : w.heap.size ≤ w'.heap.size) (hk : ∀ b, b < w.heap.size → S b → w'.heap[b]? = w.heap[b]?) : Parts w' S a n ps := by
  obtain ⟨h1, h4⟩ := h
  refine ⟨h1, ?_⟩
  rcases h4 with h | ⟨b, off, rfl, hs, hb, hc⟩
  · exact Or.inl h
  · refine Or.inr ⟨b, off, rfl, hs, by omega, fun k hk' => ?_⟩
    obtain ⟨a', n', c', h1, h2⟩ := hc k hk'
    exact ⟨a', n', c', (World.cell?_of_block (w := w) (hk b hb hs)).trans h1, h2.keep hz hk⟩
theorem Parts.weak (h : Parts w S a n ps) (hs : ∀ b, b < w.heap.size → S b → S' b) : Parts w S' a n ps := by
  obtain ⟨h1, h4⟩ := h
  refine ⟨h1, ?_⟩
  rcases h4 with h | ⟨b, off, rfl, hs', hb, hc⟩
  · exact Or.inl h
  · refine Or.inr ⟨b, off, rfl, hs b hb hs', hb, fun k hk' => ?_⟩
    obtain ⟨a', n', c', h1, h2⟩ := hc k hk'
    exact ⟨a', n', c', h1, h2.weak hs⟩
theorem Parts.old (h : Parts w S a n ps) : Parts w (fun b => b < w.heap.size) a n ps := h.weak fun _ hb _ => hb
theorem Parts.below {B : Nat} (h : Parts w S a n ps) (hb : Below B w w') (hs : ∀ b, b < w.heap.size → S b → b < B) : Parts w' S a n ps :=
  h.keep hb.size fun b hlt hS => hb.block b (hs b hlt hS)
theorem Parts.at_ (h : Parts w S a n ps) {k : Nat} (hk : k < n) : ∃ b off a' n' c', a = some ⟨b, off, none⟩ ∧ w.cell? ⟨b, off + k, none⟩ = some (.slice a' n' c') ∧ Txt w S a' n' c' (ps.getD k []) := by
  obtain ⟨h1, h4⟩ := h
  rcases h4 with h | ⟨b, off, rfl, hs, hb, hc⟩
  · subst h; simp at h1; omega
  · obtain ⟨a', n', c', h1, h2⟩ := hc k hk
    exact ⟨b, off, a', n', c', rfl, h1, h2⟩
end
def zcells : List Value := dcells ⟨0, 0, 0, 0, 0, 0, 0, 0⟩ (zs 64) 0
theorem dcells_one (s : Sm.St) (bf : List Int) (n : Nat) : (dcells s bf n).toArray.all (·.oneCell') = true := by
  refine Array.all_eq_true_iff_forall_mem.2 (fun v hv => ?_)
  have hv : v ∈ dcells s bf n := by simpa using hv
  unfold dcells at hv
  rcases List.mem_append.1 hv with h | h
  · exact wds_one _ v h
  · rcases List.mem_append.1 h with h | h
    · exact nums_one _ v h
    · simp at h; subst h; rfl
theorem flat_snoc (ps : List (List Int)) (k : Nat) (hk : k < ps.length) : (ps.take (k + 1)).flatten = (ps.take k).flatten ++ ps.getD k [] := by
  rw [List.take_succ_eq_append_getElem hk, List.flatten_append]
  simp [hk]
theorem flat_le (ps : List (List Int)) (k : Nat) : (ps.take k).flatten.length ≤ ps.flatten.length := by
  conv => rhs; rw [← List.take_append_drop k ps]
  rw [List.flatten_append, List.length_append]; omega
theorem wpList_built {ops : Array Oper} {rest : List Oper} {o : Oper} {a : Act} {w : World} {Q : Exit → Act → World → Prop} {ty : TypeId} (hg : o.guard = none) (parts : Array (Nat × Operand)) (ho : o.op = .build ty parts)
    (vs : List (Nat × Value)) (hv : parts.toList.map (fun q => (q.1, a.eval q.2)) = vs) (cells : List Value) (hc : Try.prog.built ty vs = some cells.toArray)
    (h : wpList Try.prog ops Q rest (a.put o.dst (.agg cells.toArray)) w) : wpList Try.prog ops Q (o :: rest) a w := by
  have e : (parts.map fun (i, x) => (i, a.eval x)).toList = vs := by rw [← hv]; simp
  refine wpList_build hg _ parts ho ?_ ?_
  · rw [e, hc]; rfl
  · rw [e, hc]; exact h
theorem below_of_grown {B g : Nat} {a b c : World} (h : Below B a b) (hg : b.grownBy c (some g)) (hB : B ≤ b.heap.size) (hBg : B ≤ g) : Below B a c :=
  h.trans ⟨hg.os, hg.tape, hg.output, hg.size, fun k hk => hg.block k (by omega) (by intro e; injection e; omega)⟩
end Go.Proofs.Ytdfmfjahnnifnaa
namespace Go.Proofs.Ytdfmfjahnnifnaa
set_option maxRecDepth 20000
open Go.RowKit
namespace Sm
def chg (y : Int) (l : List Int) : List Int := l.map fun x => ((x.toNat ^^^ y.toNat : Nat) : Int)
def kb (l : List Int) : List Int := if 64 < l.length then dig l ++ List.replicate 32 0 else l ++ List.replicate (64 - l.length) 0
def code (key text : List Int) : List Int := dig (chg 92 (kb key) ++ dig (chg 54 (kb key) ++ text))
end Sm
theorem xor8_lt {x y : Nat} (hx : x < 256) (hy : y < 256) : x ^^^ y < 256 := Nat.xor_lt_two_pow (n := 8) hx hy
theorem byt_chg {y : Int} {l : List Int} (hy : 0 ≤ y ∧ y < 256) (h : Byt l) : Byt (Sm.chg y l) := by
  intro z hz
  obtain ⟨x, hx, rfl⟩ := List.mem_map.1 hz
  have h1 := h x hx
  have := xor8_lt (x := x.toNat) (y := y.toNat) (by omega) (by omega)
  omega
theorem chg_len (y : Int) (l : List Int) : (Sm.chg y l).length = l.length := by simp [Sm.chg]
theorem dig_len (l : List Int) : (Sm.dig l).length = 32 := by rw [Sm.dig, bytesOf_len]; rfl
theorem byt_dig (l : List Int) : Byt (Sm.dig l) := byt_bytesOf _
theorem kb_len (l : List Int) : (Sm.kb l).length = 64 := by
  unfold Sm.kb
  split
  · simp [dig_len]
  · simp; omega
theorem byt_kb {l : List Int} (h : Byt l) : Byt (Sm.kb l) := by
  unfold Sm.kb
  split
  · exact byt_append (byt_dig l) (byt_zeros _)
  · exact byt_append h (byt_zeros _)
theorem zero64b : #[Value.int IntKind.u8 0, Value.int IntKind.u8 0, Value.int IntKind.u8 0, Value.int IntKind.u8 0, Value.int IntKind.u8 0, Value.int IntKind.u8 0, Value.int IntKind.u8 0, Value.int IntKind.u8 0, Value.int IntKind.u8 0, Value.int IntKind.u8 0, Value.int IntKind.u8 0, Value.int IntKind.u8 0, Value.int IntKind.u8 0, Value.int IntKind.u8 0, Value.int IntKind.u8 0, Value.int IntKind.u8 0, Value.int IntKind.u8 0, Value.int IntKind.u8 0, Value.int IntKind.u8 0, Value.int IntKind.u8 0, Value.int IntKind.u8 0, Value.int IntKind.u8 0, Value.int IntKind.u8 0, Value.int IntKind.u8 0, Value.int IntKind.u8 0, Value.int IntKind.u8 0, Value.int IntKind.u8 0, Value.int IntKind.u8 0, Value.int IntKind.u8 0, Value.int IntKind.u8 0, Value.int IntKind.u8 0, Value.int IntKind.u8 0, Value.int IntKind.u8 0, Value.int IntKind.u8 0, Value.int IntKind.u8 0, Value.int IntKind.u8 0, Value.int IntKind.u8 0, Value.int IntKind.u8 0, Value.int IntKind.u8 0, Value.int IntKind.u8 0, Value.int IntKind.u8 0, Value.int IntKind.u8 0, Value.int IntKind.u8 0, Value.int IntKind.u8 0, Value.int IntKind.u8 0, Value.int IntKind.u8 0, Value.int IntKind.u8 0, Value.int IntKind.u8 0, Value.int IntKind.u8 0, Value.int IntKind.u8 0, Value.int IntKind.u8 0, Value.int IntKind.u8 0, Value.int IntKind.u8 0, Value.int IntKind.u8 0, Value.int IntKind.u8 0, Value.int IntKind.u8 0, Value.int IntKind.u8 0, Value.int IntKind.u8 0, Value.int IntKind.u8 0, Value.int IntKind.u8 0, Value.int IntKind.u8 0, Value.int IntKind.u8 0, Value.int IntKind.u8 0, Value.int IntKind.u8 0] = (nums (zs 64)).toArray := rfl
theorem chg_set (y : Int) (b : List Int) (k : Nat) (hk : k < b.length) : (nums (Sm.chg y (b.take k) ++ b.drop k)).toArray.setIfInBounds k (.int .u8 (((b.getD k 0).toNat ^^^ y.toNat : Nat) : Int)) = (nums (Sm.chg y (b.take (k + 1)) ++ b.drop (k + 1))).toArray := by
  have e : b.drop k = b.getD k 0 :: b.drop (k + 1) := by
    rw [List.drop_eq_getElem_cons hk]
    simp [hk]
  rw [e, nums_set _ _ _ _ _ (by rw [chg_len, List.length_take]; omega)]
  congr 2
  have e2 : b.take (k + 1) = b.take k ++ [b.getD k 0] := by
    rw [List.take_succ_eq_append_getElem hk]; simp [hk]
  rw [e2]
  simp [Sm.chg]
theorem chg_get (y : Int) (b : List Int) (k : Nat) (hk : k < b.length) : (Sm.chg y (b.take k) ++ b.drop k).getD k 0 = b.getD k 0 := by
  have : (Sm.chg y (b.take k)).length = k := by rw [chg_len, List.length_take]; omega
  simp [List.getElem?_append_right, this]
theorem parts_whole {w : World} {S : Nat → Prop} {g : Nat} {T : TypeId} {vs : List Value} {ps : List (List Int)} (h : Whole w g T vs.toArray) (hS : S g) (hall : ∀ k, k < ps.length → ∃ a n c, vs[k]? = some (.slice a n c) ∧ Txt w S a n c (ps.getD k [])) : Parts w S (some ⟨g, 0, none⟩) ps.length ps := by
  refine ⟨rfl, Or.inr ⟨g, 0, rfl, hS, h.lt, fun k hk => ?_⟩⟩
  obtain ⟨a, n, c, h1, h2⟩ := hall k hk
  exact ⟨a, n, c, by rw [Nat.zero_add, h.cell, List.getElem?_toArray]; exact h1, h2⟩
theorem parts_one {w : World} {S : Nat → Prop} {g : Nat} {T : TypeId} {a : Option Addr} {n c : Nat} {l : List Int} (h : Whole w g T #[.slice a n c]) (hS : S g) (ht : Txt w S a n c l) : Parts w S (some ⟨g, 0, none⟩) 1 [l] :=
  parts_whole (vs := [.slice a n c]) h hS (fun k hk => by
    have : k = 0 := by simp at hk; exact hk
    subst this
    exact ⟨a, n, c, rfl, ht⟩)
theorem parts_two {w : World} {S : Nat → Prop} {g : Nat} {T : TypeId} {a a' : Option Addr} {n c n' c' : Nat} {l l' : List Int} (h : Whole w g T #[.slice a n c, .slice a' n' c']) (hS : S g) (ht : Txt w S a n c l) (ht' : Txt w S a' n' c' l') : Parts w S (some ⟨g, 0, none⟩) 2 [l, l'] :=
  parts_whole (vs := [.slice a n c, .slice a' n' c']) h hS (fun k hk => by
    simp at hk
    match k, hk with
    | 0, _ => exact ⟨a, n, c, rfl, ht⟩
    | 1, _ => exact ⟨a', n', c', rfl, ht'⟩)
theorem parts_three {w : World} {S : Nat → Prop} {g : Nat} {T : TypeId} {a a' a'' : Option Addr} {n c n' c' n'' c'' : Nat} {l l' l'' : List Int} (h : Whole w g T #[.slice a n c, .slice a' n' c', .slice a'' n'' c'']) (hS : S g) (ht : Txt w S a n c l) (ht' : Txt w S a' n' c' l') (ht'' : Txt w S a'' n'' c'' l'') : Parts w S (some ⟨g, 0, none⟩) 3 [l, l', l''] :=
  parts_whole (vs := [.slice a n c, .slice a' n' c', .slice a'' n'' c'']) h hS (fun k hk => by
    simp at hk
    match k, hk with
    | 0, _ => exact ⟨a, n, c, rfl, ht⟩
    | 1, _ => exact ⟨a', n', c', rfl, ht'⟩
    | 2, _ => exact ⟨a'', n'', c'', rfl, ht''⟩)
theorem splice_zs (l : List Int) : splice (nums (zs 64)) 0 (nums l) = nums (l ++ List.replicate (64 - l.length) 0) := by
  unfold splice
  rw [List.take_zero, List.nil_append, Nat.zero_add, ← nums_drop, nums_len, nums_append, zs, List.drop_replicate]
theorem splice_kb1 (l : List Int) (h : 64 < l.length) : splice (nums (zs 64)) 0 (nums (Sm.dig l)) = nums (Sm.kb l) := by
  rw [splice_zs, dig_len]
  unfold Sm.kb
  rw [if_pos h]
theorem splice_kb2 (l : List Int) (h : ¬ 64 < l.length) : splice (nums (zs 64)) 0 (nums l) = nums (Sm.kb l) := by
  rw [splice_zs]
  unfold Sm.kb
  rw [if_neg h]
end Go.Proofs.Ytdfmfjahnnifnaa
namespace Go.Proofs.Ytdfmfjahnnifnaa
set_option maxRecDepth 20000
open Go.RowKit
/-- What an alloc and the store of a whole row leave. -/
theorem put_row {w : World} {T : TypeId} {z N : Array Value} : Whole ((w.alloc (.cells z T)).setRow w.heap.size N) w.heap.size T N := (Whole.new w T z).row N
theorem put_far {w : World} {g : Nat} {T U : TypeId} {z N cs : Array Value} (h : Whole w g U cs) : Whole ((w.alloc (.cells z T)).setRow w.heap.size N) g U cs := (h.alloc _).rowFar (by have := h.lt; omega) N
theorem put_below {B : Nat} {a w : World} {T : TypeId} {z N : Array Value} (h : Below B a w) (hB : B ≤ w.heap.size) : Below B a ((w.alloc (.cells z T)).setRow w.heap.size N) := below_row (h.alloc hB _) hB N
theorem put_size {w : World} {T : TypeId} {z N : Array Value} : ((w.alloc (.cells z T)).setRow w.heap.size N).heap.size = w.heap.size + 1 := by simp [World.setRow]
end Go.Proofs.Ytdfmfjahnnifnaa
namespace Go.Proofs.Ytdfmfjahnnifnaa
set_option maxRecDepth 20000
open Go.RowKit
namespace Sm
/-- The greatest power of two below n, which is at least 2. -/
def pw (n : Nat) : Nat := 2 ^ (bitLen (n - 1) - 1)
end Sm
theorem pw_spec (n : Nat) (hn : 2 ≤ n) : 1 ≤ Sm.pw n ∧ Sm.pw n < n ∧ n ≤ 2 * Sm.pw n := by
  have h := bitLen_spec (n - 1)
  have h2 := h.2 (by omega)
  unfold Sm.pw
  have hb : 1 ≤ bitLen (n - 1) := by
    unfold bitLen
    rw [if_neg (by omega)]; omega
  have h3 : 2 ^ bitLen (n - 1) = 2 * 2 ^ (bitLen (n - 1) - 1) := by
    obtain ⟨k, hk⟩ : ∃ k, bitLen (n - 1) = k + 1 := ⟨bitLen (n - 1) - 1, by omega⟩
    rw [hk, Nat.add_sub_cancel, Nat.pow_succ]; omega
  have h4 : 0 < 2 ^ (bitLen (n - 1) - 1) := Nat.two_pow_pos _
  omega
namespace Sm
def treeF : Nat → List (List Int) → List Int
  | 0, _ => []
  | f + 1, l => if l.length = 0 then dig [] else if l.length = 1 then l.getD 0 [] else dig (1 :: (treeF f (l.take (pw l.length)) ++ treeF f (l.drop (pw l.length))))
def tree (l : List (List Int)) : List Int := treeF (l.length + 1) l
end Sm
theorem treeF_more (f : Nat) : ∀ (f' : Nat) (l : List (List Int)), l.length < f → l.length < f' → Sm.treeF f l = Sm.treeF f' l := by
  induction f with
  | zero => intro f' l h; omega
  | succ f ih =>
    intro f' l h h'
    obtain ⟨g, rfl⟩ : ∃ g, f' = g + 1 := ⟨f' - 1, by omega⟩
    simp only [Sm.treeF]
    split
    · rfl
    · split
      · rfl
      · have hp := pw_spec l.length (by omega)
        rw [ih g _ (by rw [List.length_take]; omega) (by rw [List.length_take]; omega), ih g _ (by rw [List.length_drop]; omega) (by rw [List.length_drop]; omega)]
theorem tree_nil : Sm.tree [] = Sm.dig [] := rfl
theorem tree_one (x : List Int) : Sm.tree [x] = x := rfl
theorem tree_more (l : List (List Int)) (h : 2 ≤ l.length) : Sm.tree l = Sm.dig (1 :: (Sm.tree (l.take (Sm.pw l.length)) ++ Sm.tree (l.drop (Sm.pw l.length)))) := by
  have hp := pw_spec l.length h
  unfold Sm.tree
  conv => lhs; unfold Sm.treeF
  rw [if_neg (by omega), if_neg (by omega), treeF_more _ ((l.take (Sm.pw l.length)).length + 1) _ (by rw [List.length_take]; omega) (by omega), treeF_more l.length ((l.drop (Sm.pw l.length)).length + 1) _ (by rw [List.length_drop]; omega) (by omega)]
/-- A digest. -/
def Dig (d : List Int) : Prop := d.length = 32 ∧ Byt d
theorem dig_ok (l : List Int) : Dig (Sm.dig l) := ⟨dig_len l, byt_dig l⟩
theorem tree_ok (l : List (List Int)) (h : ∀ d ∈ l, Dig d) : Dig (Sm.tree l) := by
  by_cases h2 : 2 ≤ l.length
  · rw [tree_more l h2]; exact dig_ok _
  · match l, h, h2 with
    | [], _, _ => exact dig_ok _
    | [x], h, _ => exact h x (by simp)
    | _ :: _ :: _, _, h2 => simp at h2
/-- The slice a, n of digests holds ds. -/
def Digs (w : World) (S : Nat → Prop) (a : Option Addr) (n : Nat) (ds : List (List Int)) : Prop :=
  ds.length = n ∧ (∀ d ∈ ds, Dig d) ∧ (ds = [] ∨ ∃ b off, a = some ⟨b, off, none⟩ ∧ S b ∧ b < w.heap.size ∧ ∀ k, k < n → w.rangeAt b (off + k * 32) (nums (ds.getD k [])))
section
variable {w w' : World} {S S' : Nat → Prop} {a : Option Addr} {n : Nat} {ds : List (List Int)}
theorem Digs.keep (h : Digs w S a n ds) (hz : w.heap.size ≤ w'.heap.size) (hk : ∀ b, b < w.heap.size → S b → w'.heap[b]? = w.heap[b]?) : Digs w' S a n ds := by
  obtain ⟨h1, h2, h4⟩ := h
  refine ⟨h1, h2, ?_⟩
  rcases h4 with h | ⟨b, off, rfl, hs, hb, hc⟩
  · exact Or.inl h
  · refine Or.inr ⟨b, off, rfl, hs, by omega, fun k hk' j v hv => ?_⟩
    exact (World.cell?_of_block (w := w) (hk b hb hs)).trans (hc k hk' j v hv)
theorem Digs.weak (h : Digs w S a n ds) (hs : ∀ b, b < w.heap.size → S b → S' b) : Digs w S' a n ds := by
  obtain ⟨h1, h2, h4⟩ := h
  refine ⟨h1, h2, ?_⟩
  rcases h4 with h | ⟨b, off, rfl, hs', hb, hc⟩
  · exact Or.inl h
  · exact Or.inr ⟨b, off, rfl, hs b hb hs', hb, hc⟩
theorem Digs.old (h : Digs w S a n ds) : Digs w (fun b => b < w.heap.size) a n ds := h.weak fun _ hb _ => hb
theorem Digs.below {B : Nat} (h : Digs w S a n ds) (hb : Below B w w') (hs : ∀ b, b < w.heap.size → S b → b < B) : Digs w' S a n ds :=
  h.keep hb.size fun b hlt hS => hb.block b (hs b hlt hS)
theorem Digs.nil (w : World) (S : Nat → Prop) (a : Option Addr) : Digs w S a 0 [] := ⟨rfl, (fun d hd => by cases hd), Or.inl rfl⟩
theorem Digs.take (h : Digs w S a n ds) (k : Nat) (hk : k ≤ n) : Digs w S a k (ds.take k) := by
  obtain ⟨h1, h2, h4⟩ := h
  refine ⟨by rw [List.length_take]; omega, fun d hd => h2 d (List.mem_of_mem_take hd), ?_⟩
  rcases h4 with h | ⟨b, off, rfl, hs, hb, hc⟩
  · subst h; exact Or.inl (by simp)
  · refine Or.inr ⟨b, off, rfl, hs, hb, fun j hj => ?_⟩
    have e : (ds.take k).getD j [] = ds.getD j [] := by
      have : j < ds.length := by omega
      simp [hj]
    rw [e]
    exact hc j (by omega)
theorem Digs.drop (h : Digs w S a n ds) (k c : Nat) (hk : k < n) (hc : n ≤ c) : Digs w S (if c = k then a else a.map (·.add (k * 32))) (n - k) (ds.drop k) := by
  obtain ⟨h1, h2, h4⟩ := h
  refine ⟨by rw [List.length_drop]; omega, fun d hd => h2 d (List.mem_of_mem_drop hd), ?_⟩
  rcases h4 with h | ⟨b, off, rfl, hs, hb, hcc⟩
  · subst h; simp at h1; omega
  · refine Or.inr ⟨b, off + k * 32, ?_, hs, hb, fun j hj => ?_⟩
    · rw [if_neg (by omega)]
      simp [Addr.add_lit]
    · have e : (ds.drop k).getD j [] = ds.getD (k + j) [] := by simp
      rw [e, show off + k * 32 + j * 32 = off + (k + j) * 32 by omega]
      exact hcc (k + j) (by omega)
end
theorem sz_32 (w : World) : (sizeOf 26).run Try.prog w = .ok 32 w := by
  cases hq : Try.prog.info? 26 with
  | none => have := info32; rw [hq] at this; cases this
  | some i =>
    have := info32
    rw [hq] at this
    simp only [Option.map_some, Option.some.injEq] at this
    simp [sizeOf, typeInfo, hq, this]
theorem slice_lo {a : Option Addr} {n c k : Nat} (h1 : k ≤ n) (w : World) : (Instr.slice 25 (.slice a n c) (some (.int .i64 (k : Int))) none none).run Try.prog w = .ok (.slice (if c = k then a else a.map (·.add (k * 32))) (n - k) (c - k)) w := by
  have hb : (0 : Int) ≤ (k : Int) ∧ (k : Int) ≤ (n : Int) := by omega
  simp only [Instr.slice, Instr.sliceBounds, Instr.sliceBound, Sem.run_bind, Sem.run_pure, Result.andThen_ok, run_underlying Try.underlying25, asIntOf, if_pos hb, sz_32, Int.toNat_natCast]
theorem slice_hi {a : Option Addr} {n c k : Nat} (h1 : k ≤ c) (hc : 0 < c) (w : World) : (Instr.slice 25 (.slice a n c) none (some (.int .i64 (k : Int))) none).run Try.prog w = .ok (.slice a k c) w := by
  have hb : (0 : Int) ≤ (k : Int) ∧ (k : Int) ≤ (c : Int) := by omega
  have e : (if c = 0 then a else Option.map (fun x => x.add (0 * 32)) a) = a := by
    rw [if_neg (by omega)]
    cases a <;> simp [Addr.add]
  simp only [Instr.slice, Instr.sliceBounds, Instr.sliceBound, Sem.run_bind, Sem.run_pure, Result.andThen_ok, run_underlying Try.underlying25, asIntOf, if_pos hb, sz_32, Int.toNat_natCast, e, Nat.sub_zero]
end Go.Proofs.Ytdfmfjahnnifnaa
namespace Go.Proofs.Ytdfmfjahnnifnaa
set_option maxRecDepth 20000
open Go.RowKit
theorem row_size {d : List Int} (h : Dig d) : (nums d).toArray.size = 32 := by simp [nums_len, h.1]
theorem zs32_size : (nums (zs 32)).toArray.size = 32 := rfl
theorem txt_dig {w : World} {g : Nat} {d : List Int} (h : Whole w g 26 (nums d).toArray) (hd : Dig d) : Txt w (fun _ => True) (some ⟨g, 0, none⟩) 32 32 d := by
  have t := txt_of_whole (fun _ => True) trivial h hd.2 32 32 (by rw [hd.1]; omega) (by omega)
  rwa [List.take_of_length_le (by rw [hd.1]; omega)] at t
end Go.Proofs.Ytdfmfjahnnifnaa
namespace Go.Proofs.Ytdfmfjahnnifnaa
set_option maxRecDepth 20000
open Go.RowKit

theorem part_u8 {x : List Int} {i : Nat} (h : i < x.length) (w : World) : (part 5 (nums x).toArray i).run Try.prog w = .ok (.int .u8 (x.getD i 0)) w := by
  have ha : (isAgg 5).run Try.prog w = .ok false w := by
    unfold isAgg
    rw [Sem.run_bind, run_underlying Try.underlying5 w]
    rfl
  unfold part
  rw [Sem.run_bind, ha]
  simp only [Result.andThen_ok, Bool.false_eq_true, if_false, List.getElem?_toArray, nums_get x i h]
  rfl

theorem loop32 (D : Nat) (hD : ∀ (a b : Int) (w : World), (Op.equalIn D 5 (.int .u8 a) (.int .u8 b)).run Try.prog w = .ok (a == b) w) (x y : List Int) (w : World) :
    ∀ is : List Nat, (∀ i ∈ is, i < x.length ∧ i < y.length) →
    (forIn (m := Sem) is ((none, ()) : Option Bool × Unit) fun i __s => do
        let a ← part 5 (nums x).toArray (i * 1)
        let b ← part 5 (nums y).toArray (i * 1)
        let r ← Op.equalIn D 5 a b
        if (!r) = true then pure (ForInStep.done (some false, ())) else pure (ForInStep.yield (none, ()))).run Try.prog w =
      .ok (if is.all (fun i => x.getD i 0 == y.getD i 0) then (none, ()) else (some false, ())) w := by
  intro is
  induction is with
  | nil => intro _; rfl
  | cons i is ih =>
    intro h
    have hi := h i (by simp)
    have ih' := ih (fun j hj => h j (by simp [hj]))
    rw [List.forIn_cons]
    simp only [Sem.run_bind, Nat.mul_one, part_u8 hi.1, part_u8 hi.2, hD, Result.andThen_ok]
    by_cases e : x.getD i 0 = y.getD i 0
    · have eb : (x.getD i 0 == y.getD i 0) = true := beq_iff_eq.2 e
      rw [eb]
      simp only [Bool.not_true, Bool.false_eq_true, if_false, Sem.run_pure, Result.andThen_ok]
      have := ih'
      simp only [Nat.mul_one] at this
      rw [this, List.all_cons, eb, Bool.true_and]
    · have eb : (x.getD i 0 == y.getD i 0) = false := beq_eq_false_iff_ne.2 e
      rw [eb]
      simp only [Bool.not_false, if_true, Sem.run_pure, Result.andThen_ok]
      have e2 : ((i :: is).all fun i => x.getD i 0 == y.getD i 0) = false := by rw [List.all_cons, eb]; rfl
      rw [e2]
      rfl
theorem all_range {x y : List Int} (hx : x.length = 32) (hy : y.length = 32) : ((List.range' 0 32).all fun i => x.getD i 0 == y.getD i 0) = decide (x = y) := by
  rw [Bool.eq_iff_iff]
  simp only [List.all_eq_true, decide_eq_true_eq, List.mem_range'_1, beq_iff_eq]
  constructor
  · intro h
    apply List.ext_getElem (by omega)
    intro i h1 h2
    have := h i (by omega)
    simpa [h1, h2] using this
  · intro h i _
    rw [h]
theorem equal32 (D : Nat) (hD : ∀ (a b : Int) (w : World), (Op.equalIn D 5 (.int .u8 a) (.int .u8 b)).run Try.prog w = .ok (a == b) w) (x y : List Int) (hx : x.length = 32) (hy : y.length = 32) (w : World) :
    (Op.equalIn (D + 1) 26 (.agg (nums x).toArray) (.agg (nums y).toArray)).run Try.prog w = .ok (decide (x = y)) w := by
  simp only [Op.equalIn, Sem.run_bind, run_underlying und32, Result.andThen_ok, sz_u8]
  have h := loop32 D hD x y w (List.range' 0 32) (fun i hi => by simp at hi; omega)
  rw [Std.Legacy.Range.forIn_eq_forIn_range']
  have e : (List.range' ([:32] : Std.Legacy.Range).start ([:32] : Std.Legacy.Range).size ([:32] : Std.Legacy.Range).step) = List.range' 0 32 := rfl
  rw [e, h, all_range hx hy]
  by_cases hxy : x = y
  · simp [hxy]
  · simp [hxy]
theorem eql32 (x y : List Int) (hx : x.length = 32) (hy : y.length = 32) (w : World) : (binOp .eql 26 (.agg (nums x).toArray) (.agg (nums y).toArray)).run Try.prog w = .ok (.bool (decide (x = y))) w := by
  have h := equal32 9999 (fun a b w => run_equalIn_int w 9998 5 .u8 .u8 a b Try.underlying5) x y hx hy w
  rw [run_eql_struct w, h]
  rfl
theorem neq32 (x y : List Int) (hx : x.length = 32) (hy : y.length = 32) (w : World) : (binOp .neq 26 (.agg (nums x).toArray) (.agg (nums y).toArray)).run Try.prog w = .ok (.bool (!decide (x = y))) w := by
  have h := equal32 9999 (fun a b w => run_equalIn_int w 9998 5 .u8 .u8 a b Try.underlying5) x y hx hy w
  rw [run_neq_struct w, h]
  rfl
end Go.Proofs.Ytdfmfjahnnifnaa
namespace Go.Proofs.Ytdfmfjahnnifnaa
set_option maxRecDepth 20000
open Go.ChangeShapes Go.WideShapes Go.RowKit Go.Deep

theorem u8_in {n : Int} (h : (Lit.int .u8 n).wf = true) : 0 ≤ n ∧ n < 256 := by
  simp [Lit.wf, IntKind.min, IntKind.max, IntKind.signed, IntKind.bits] at h
  omega
theorem u32_in {n : Int} (h : (Lit.int .u32 n).wf = true) : 0 ≤ n ∧ n < 4294967296 := by
  simp [Lit.wf, IntKind.min, IntKind.max, IntKind.signed, IntKind.bits] at h
  omega
theorem i64_in {n : Int} (h : (Lit.int .i64 n).wf = true) : -9223372036854775808 ≤ n ∧ n ≤ 9223372036854775807 := by
  simp [Lit.wf, IntKind.min, IntKind.max, IntKind.signed, IntKind.bits] at h
  omega
/-- What came in: nil, or a row of numbers. -/
def Row (k : IntKind) (w : World) (a : Option Addr) (len cap : Nat) (zs : List Int) : Prop :=
  (a = none ∧ len = 0 ∧ cap = 0 ∧ zs = []) ∨
  ∃ x, a = some x ∧ len ≤ cap ∧ cap ≤ maxLen ∧ zs.length = cap ∧ (∀ i, i < zs.length → w.cell? (x.add i) = some (.int k (zs.getD i 0))) ∧ ∀ n ∈ zs, (Lit.int k n).wf = true
theorem row_txt {w : World} {a : Option Addr} {len cap : Nat} {zs : List Int} (h : Row .u8 w a len cap zs) : ∃ l, Txt w (· < w.heap.size) a len cap l := by
  rcases h with ⟨_, h0, h1, _⟩ | ⟨x, rfl, hle, _, hz, hc, hw⟩
  · subst h0 h1
    exact ⟨[], Txt.nil _ _ _ _⟩
  · have hby : Byt (zs.take len) := by
      intro y hy
      exact u8_in (hw y (List.mem_of_mem_take hy))
    by_cases h0 : len = 0
    · subst h0
      exact ⟨[], rfl, by omega, byt_nil, Or.inl rfl⟩
    · obtain ⟨b, off, rfl, hc'⟩ := ints_at hc (by omega)
      refine ⟨zs.take len, by simp; omega, hle, hby, Or.inr ⟨b, off, rfl, World.block_lt_of_cell? w _ (hc' 0 (by omega)), World.block_lt_of_cell? w _ (hc' 0 (by omega)), fun k hk => ?_⟩⟩
      rw [hc' k (by omega)]
      have hk' : k < zs.length := by omega
      simp [hk', hk]
/-- Numbers that came in. -/
def Nums (w : World) (a : Option Addr) (n : Nat) (l : List Int) : Prop :=
  l.length = n ∧ (∀ x ∈ l, -9223372036854775808 ≤ x ∧ x ≤ 9223372036854775807) ∧ (l = [] ∨ ∃ b off, a = some ⟨b, off, none⟩ ∧ b < w.heap.size ∧ ∀ k, k < n → w.cell? ⟨b, off + k, none⟩ = some (.int .i64 (l.getD k 0)))
theorem row_nums {w : World} {a : Option Addr} {len cap : Nat} {zs : List Int} (h : Row .i64 w a len cap zs) : ∃ l, Nums w a len l := by
  rcases h with ⟨_, h0, h1, _⟩ | ⟨x, rfl, hle, _, hz, hc, hw⟩
  · subst h0 h1
    exact ⟨[], rfl, (fun x hx => by cases hx), Or.inl rfl⟩
  · by_cases h0 : len = 0
    · subst h0
      exact ⟨[], rfl, (fun x hx => by cases hx), Or.inl rfl⟩
    · obtain ⟨b, off, rfl, hc'⟩ := ints_at hc (by omega)
      refine ⟨zs.take len, by simp; omega, fun y hy => i64_in (hw y (List.mem_of_mem_take hy)), Or.inr ⟨b, off, rfl, World.block_lt_of_cell? w _ (hc' 0 (by omega)), fun k hk => ?_⟩⟩
      rw [hc' k (by omega)]
      have hk' : k < zs.length := by omega
      simp [hk', hk]
section
variable {H : Type} {enc : TypeId × Value → H} {w : World}
theorem some_of {xs : List (DataW H × List MemPlace)} {n i : Nat} (h : xs.length = n) (hi : i < n) : ∃ y, xs[i]? = some y := ⟨xs[i]'(by omega), List.getElem?_eq_getElem (by omega)⟩
/-- Thirty-two bytes that came in. -/
theorem open_h32 {m : Nat} {r : List Value} {x : DataW H × List MemPlace} (hr : r.length = 32) (h : DataW.trod enc Try.prog w 0 (fun _ => true) true m 26 r = some x) : ∃ l : List Int, Dig l ∧ r = nums l := by
  obtain ⟨xs, m', _, _, _, hxl, hi⟩ := DataW.trod_array und32 h
  have hc : Try.prog.cellsOf 5 = 1 := by kernel_rfl
  obtain ⟨f, hf⟩ := choose_lt (α := Int) (n := 32) (p := fun i v => r[i]? = some (.int .u8 v) ∧ 0 ≤ v ∧ v < 256) (fun i hlt => by
    have h1 := hi i hlt
    obtain ⟨y, hy⟩ := some_of hxl hlt
    rw [hy, hc, Nat.mul_one] at h1
    obtain ⟨n, hn, _, hw⟩ := DataW.trod_int Try.underlying5 h1
    refine ⟨n, ?_, u8_in hw⟩
    rw [List.drop_eq_getElem_cons (by omega)] at hn
    simp only [List.take_succ_cons, List.take_zero, List.cons.injEq, and_true] at hn
    rw [List.getElem?_eq_getElem (by omega), hn])
  refine ⟨(List.range 32).map f, ⟨by simp, ?_⟩, ?_⟩
  · intro y hy
    obtain ⟨i, hi', rfl⟩ := List.mem_map.1 hy
    exact (hf i (List.mem_range.1 hi')).2
  · apply List.ext_getElem?
    intro i
    by_cases h32 : i < 32
    · rw [(hf i h32).1, nums_get _ i (by simpa using h32)]
      simp [h32]
    · rw [List.getElem?_eq_none (by omega), List.getElem?_eq_none (by rw [nums_len]; simp; omega)]
theorem open_hash {base : Nat} {r : Reach} {v : Value} {d : DataW H} {ps : List MemPlace} (hv : Value.okWide Try.prog w r base 26 v) (h : DataW.Trod enc Try.prog w 0 (fun _ => true) true 26 v d ps) : ∃ l : List Int, Dig l ∧ v = .agg (nums l).toArray := by
  simp only [Value.okWide, und32] at hv
  obtain ⟨cs, rfl, h2, _⟩ := hv
  obtain ⟨fuel, hf⟩ := h
  have h32 : cs.size = 32 := by rw [h2]; kernel_rfl
  obtain ⟨l, hl, e⟩ := open_h32 (r := cs.toList) (by simpa using h32) (by simpa [Value.cells] using hf)
  refine ⟨l, hl, ?_⟩
  rw [← e]
/-- A row of digests that came in. -/
theorem open_digs {m : Nat} {a : Option Addr} {len cap : Nat} {x : DataW H × List MemPlace} (h : DataW.trod enc Try.prog w 0 (fun _ => true) true m 25 [.slice a len cap] = some x) :
    ∃ ds, len ≤ cap ∧ Digs w (· < w.heap.size) a len ds := by
  have k32 : Try.prog.cellsOf 26 = 32 := by kernel_rfl
  rcases open_slice Try.underlying25 h with ⟨hcs, _⟩ | ⟨ad, l, c, m', n, D, Pl, hcs, _, hl, _, hm, _, hi⟩
  · injection hcs with hcs _
    injection hcs with e1 e2 e3
    subst e1 e2 e3
    exact ⟨[], Nat.le_refl _, Digs.nil _ _ _⟩
  · injection hcs with hcs _
    injection hcs with e1 e2 e3
    subst e1 e2 e3
    have hm' : m' = cap := by simpa using hm
    subst hm'
    rw [k32] at hi
    by_cases h0 : len = 0
    · subst h0
      exact ⟨[], Nat.zero_le _, Digs.nil _ _ _⟩
    · obtain ⟨b, off, spot⟩ := ad
      have hspot : spot = none := by
        obtain ⟨cs', h1, h2⟩ := hi 0 (by omega)
        obtain ⟨_, hlen, hat⟩ := World.cells?_some h1
        obtain ⟨p, hok, hcs⟩ := open_h32 hlen h2
        have := hat 0 (by omega)
        rw [hcs, nums_get _ _ (by rw [hok.1]; omega)] at this
        simpa [Addr.add] using World.cell?_spot this
      subst hspot
      obtain ⟨f, hf⟩ := choose_lt (α := List Int) (n := len) (p := fun i p => Dig p ∧ w.rangeAt b (off + i * 32) (nums p)) (fun i hlt => by
        obtain ⟨cs', h1, h2⟩ := hi i (by omega)
        obtain ⟨_, hlen, hat⟩ := World.cells?_some h1
        obtain ⟨p, hok, rfl⟩ := open_h32 hlen h2
        refine ⟨p, hok, fun j u hu => ?_⟩
        have hj : j < 32 := by
          have := (List.getElem?_eq_some_iff.1 hu).1
          rw [nums_len, hok.1] at this; exact this
        have := hat j hj
        rw [add_add, add_plain] at this
        rw [← hu, ← this, Nat.add_assoc])
      refine ⟨(List.range len).map f, hl, by simp, ?_, Or.inr ⟨b, off, rfl, ?_, ?_, ?_⟩⟩
      · intro p hp
        obtain ⟨i, hi', rfl⟩ := List.mem_map.1 hp
        exact (hf i (List.mem_range.1 hi')).1
      · have h := hf 0 (by omega)
        exact World.block_lt_of_cell? w _ (h.2 0 _ (nums_get _ 0 (by rw [h.1.1]; omega)))
      · have h := hf 0 (by omega)
        exact World.block_lt_of_cell? w _ (h.2 0 _ (nums_get _ 0 (by rw [h.1.1]; omega)))
      · intro i hlt
        have := (hf i hlt).2
        simpa [hlt] using this
end
end Go.Proofs.Ytdfmfjahnnifnaa
