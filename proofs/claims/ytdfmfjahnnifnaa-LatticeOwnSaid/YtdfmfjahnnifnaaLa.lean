/-
  What the laws of the lattice need: rows of numbers, lists of facts of one's own, and what the package's functions are to answer (the structure Lat).
-/
import Derived.Test.YtdfmfjahnnifnaaFj
import Derived.Deep.QuietTactic
import Derived.BigQuiet
namespace Go.Proofs.Ytdfmfjahnnifnaa
set_option maxRecDepth 20000
set_option linter.unusedSimpArgs false
set_option linter.unusedVariables false
open Go.RowKit Go.Great
/-- A list of facts of one's own: its cells lie in a block from B on, its members' digests too. -/
structure Own (w : World) (B : Nat) (a : Option Addr) (n c : Nat) (R : List Fm) : Prop where
  own : w.ownsRow B 30 38 (.slice a n c) n (flatF R)
  rows : ∀ x ∈ R, Rw w (fun b => B ≤ b) x
  len : R.length = n
theorem own_mono {w : World} {base base' e s n : Nat} {v : Value} {xs : List Value} (h : w.ownsRow base e s v n xs) (hb : base' ≤ base) : w.ownsRow base' e s v n xs :=
  ⟨h.1, h.2.imp id (fun ⟨g, cap, cur, h1, h2, h3⟩ => ⟨g, cap, cur, h1, Nat.le_trans hb h2, h3⟩)⟩
section
variable {w w' : World} {B B' : Nat} {a : Option Addr} {n c : Nat} {R : List Fm}
theorem Own.get (h : Own w B a n c R) : n ≤ c ∧ Fts w (B ≤ ·) (fun b => B ≤ b) a n R := by
  obtain ⟨a', c', e, h1, h2⟩ := own_facts h.own h.rows h.len
  injection e with e1 e2 e3
  subst e1 e3
  exact ⟨h1, h2⟩
theorem Own.fts (h : Own w B a n c R) : Fts w (B ≤ ·) (fun b => B ≤ b) a n R := h.get.2
theorem Own.le (h : Own w B a n c R) : n ≤ c := h.get.1
theorem Own.mono (h : Own w B a n c R) (hb : B' ≤ B) : Own w B' a n c R := ⟨own_mono h.own hb, fun x hx => (h.rows x hx).weak (fun _ _ h => Nat.le_trans hb h), h.len⟩
theorem Own.below (h : Own w B a n c R) (hb : Below w.heap.size w w') : Own w' B a n c R :=
  ⟨own_keep h.own (fun b hq => hb.block b (own_lt h.own b hq)), fun x hx => (h.rows x hx).keep hb.size (fun b hlt _ => hb.block b hlt), h.len⟩
theorem Own.nil (w : World) (B : Nat) : Own w B none 0 0 [] := ⟨World.ownsRow_nil _ _ _ _, (fun x hx => by cases hx), rfl⟩
end
/-- Facts of little loads. -/
def FewR (R : List Fm) : Prop := ∀ x ∈ R, x.1.man.ds.length ≤ 100
theorem fewR_of {R : List Fm} {l : List Ft.Fact} (h : FS R = l) (hl : ∀ f ∈ l, f.man.ds.length ≤ 100) : FewR R := fun x hx => hl _ (by rw [← h]; exact List.mem_map.2 ⟨x, hx, rfl⟩)
/-- Rows of numbers. -/
def Ns (w : World) (S : Nat → Prop) (a : Option Addr) (n : Nat) (l : List Int) : Prop :=
  l.length = n ∧ (l = [] ∨ ∃ b off, a = some ⟨b, off, none⟩ ∧ S b ∧ b < w.heap.size ∧ ∀ k, k < n → w.cell? ⟨b, off + k, none⟩ = some (.int .i64 (l.getD k 0)))
section
variable {w w' : World} {S S' : Nat → Prop} {a : Option Addr} {n : Nat} {l : List Int}
theorem Ns.keep (h : Ns w S a n l) (hz : w.heap.size ≤ w'.heap.size) (hk : ∀ b, b < w.heap.size → S b → w'.heap[b]? = w.heap[b]?) : Ns w' S a n l := by
  obtain ⟨h1, h3⟩ := h
  refine ⟨h1, ?_⟩
  rcases h3 with h | ⟨b, off, rfl, hs, hb, hc⟩
  · exact Or.inl h
  · refine Or.inr ⟨b, off, rfl, hs, by omega, fun k hk' => ?_⟩
    rw [← hc k hk']
    exact World.cell?_of_block (w := w) (hk b hb hs)
theorem Ns.weak (h : Ns w S a n l) (hs : ∀ b, b < w.heap.size → S b → S' b) : Ns w S' a n l := by
  obtain ⟨h1, h3⟩ := h
  refine ⟨h1, ?_⟩
  rcases h3 with h | ⟨b, off, rfl, hs', hb, hc⟩
  · exact Or.inl h
  · exact Or.inr ⟨b, off, rfl, hs b hb hs', hb, hc⟩
theorem Ns.old (h : Ns w S a n l) : Ns w (fun b => b < w.heap.size) a n l := h.weak fun _ hb _ => hb
theorem Ns.below {B : Nat} (h : Ns w S a n l) (hb : Below B w w') (hs : ∀ b, b < w.heap.size → S b → b < B) : Ns w' S a n l :=
  h.keep hb.size fun b hlt hS => hb.block b (hs b hlt hS)
theorem Ns.cell (h : Ns w S a n l) {k : Nat} (hk : k < n) : ∃ b off, a = some ⟨b, off, none⟩ ∧ S b ∧ b < w.heap.size ∧ w.cell? ⟨b, off + k, none⟩ = some (.int .i64 (l.getD k 0)) := by
  obtain ⟨h1, h3⟩ := h
  rcases h3 with h | ⟨b, off, rfl, hs, hb, hc⟩
  · subst h; simp at h1; omega
  · exact ⟨b, off, rfl, hs, hb, hc k hk⟩
theorem ns_own {B cap : Nat} (h : w.ownsRow B 3 1 (.slice a n cap) n (i64s l)) (hl : l.length = n) : Ns w (B ≤ ·) a n l := by
  refine ⟨hl, ?_⟩
  by_cases h0 : n = 0
  · exact Or.inl (List.eq_nil_of_length_eq_zero (by omega))
  · obtain ⟨g, c', e, hb', hlt⟩ := h.form (by omega)
    injection e with e1 e2 e3
    subst e1 e3
    refine Or.inr ⟨g, 0, rfl, hb', hlt, fun k hk => ?_⟩
    rw [Nat.zero_add, h.cellAt _ (by omega)]
    have : k < l.length := by omega
    simp [i64s, this]
end
set_option maxHeartbeats 4000000 in
theorem nsame_any {S S' : Nat → Prop} {a b : Option Addr} {n c d : Nat} {l : List Int} {w : World} (h : Ns w S a n l) (h' : Ns w S' b n l) (hn : n ≤ 1000000) :
    Calls Try.prog 20 #[.slice a n c, .slice b n d] w fun e w' => e = .returned (.bool true) ∧ Below w.heap.size w w' := by
  have H0 : Hid (Ns w S a n l ∧ Ns w S' b n l ∧ ∃ q, w = w.drewN q) := Lib.hid ⟨h, h', 0, rfl⟩
  clear h h'
  have q0 : (n != n) = false := by simp
  have q0' : ((n : Int) != (n : Int)) = false := by simp
  go_enter Try.func20, Try.ntmps20
  go_wp2
  go_loopw [5] (fun v wr => ∃ k : Nat, k ≤ n ∧ v = .int .i64 (k : Int) ∧ Hid (Ns wr S a n l ∧ Ns wr S' b n l ∧ ∃ q, wr = w.drewN q)) (fun v _ => n - (intOf v).toNat)
  case atStart => exact ⟨0, Nat.zero_le _, rfl, H0⟩
  case round =>
    clear H0
    obtain ⟨k, hk, rfl, HB⟩ := hrel
    by_cases hlt : k < n
    · obtain ⟨x, hx⟩ : ∃ x, l.getD k 0 = x := ⟨_, rfl⟩
      obtain ⟨ga, oa, ha, _, _, ca⟩ := HB.out.1.cell hlt
      obtain ⟨gb, ob, hb, _, _, cb⟩ := HB.out.2.1.cell hlt
      rw [hx] at ca cb
      subst ha hb
      have q1 : (k : Int) < (n : Int) := by omega
      have q2 : (x != x) = false := by simp
      clear hx
      go_wp2
      go_quiet (fail)
      go_wp2
      go_roundw
      case rel => exact ⟨k + 1, by omega, by go_num, Lib.hid ⟨HB.out.1.keep (Nat.le_refl _) (fun _ _ _ => rfl), HB.out.2.1.keep (Nat.le_refl _) (fun _ _ _ => rfl), by obtain ⟨q, hq⟩ := HB.out.2.2; exact ⟨q + nq, by rw [hq]; simp [World.drewN, Nat.add_assoc]⟩⟩⟩
      case measure => simp [intOf]; omega
    · have q1 : ¬ ((k : Int) < (n : Int)) := by omega
      go_wp2
      go_ret
      obtain ⟨q, hq⟩ := HB.out.2.2
      exact ⟨rfl, by rw [hq]; exact ⟨rfl, rfl, rfl, Nat.le_refl _, fun _ _ => rfl⟩⟩
/-- A list of one's own is answered. -/
def Owns (w : World) (l : List Ft.Fact) (e : Ending) (w' : World) : Prop :=
  ∃ a n c R, e = .returned (.slice a n c) ∧ Own w' w.heap.size a n c R ∧ FS R = l ∧ Below w.heap.size w w'
/-- A list of one's own is answered, and a number. -/
def OwnsE (w : World) (l : List Ft.Fact) (k : Int) (e : Ending) (w' : World) : Prop :=
  ∃ a n c R, e = .returned (.tuple #[.slice a n c, .int .i64 k]) ∧ Own w' w.heap.size a n c R ∧ FS R = l ∧ Below w.heap.size w w'
/-- A list is answered. -/
def Lists (w : World) (l : List Ft.Fact) (e : Ending) (w' : World) : Prop :=
  ∃ a n c R, e = .returned (.slice a n c) ∧ n ≤ c ∧ Fts w' (fun b => b < w'.heap.size) (fun b => b < w'.heap.size) a n R ∧ FS R = l ∧ Below w.heap.size w w'
/-- Numbers are answered. -/
def Whos (w : World) (l : List Int) (r : Ending) (w' : World) : Prop :=
  ∃ q m cap, r = .returned (.slice q m cap) ∧ m ≤ cap ∧ Ns w' (w.heap.size ≤ ·) q m l ∧ Below w.heap.size w w'
/-- A manifest is answered, and whether there is one. -/
def ManiQ (w : World) (o : Option Mf.Man) (r : Ending) (w' : World) : Prop :=
  (∃ Q : Array Value, r = .returned (.tuple #[.agg Q, .bool o.isSome]) ∧ Mv w' (w.heap.size ≤ ·) (.agg Q) (o.getD Mf.zero)) ∧ Below w.heap.size w w'
/-- What the package's functions are to answer. -/
structure Lat : Prop where
  add : ∀ {w : World} {S D D' : Nat → Prop} {a : Option Addr} {n c : Nat} {R : List Fm} {x : Fm} (N : Int), Fts w S D a n R → n ≤ c → n ≤ 200 → La.Good N (FS R) → FewR R → Rw w D' x → x.1.man.ds.length ≤ 100 →
    Calls Try.prog 14 #[.int .i64 N, .slice a n c, .agg (fc x).toArray] w (OwnsE w (La.add N (FS R) x.1).1 (La.add N (FS R) x.1).2)
  merge : ∀ {w : World} {S D S' D' : Nat → Prop} {a b : Option Addr} {n c m d : Nat} {R Q : List Fm} (N : Int), Fts w S D a n R → n ≤ c → n ≤ 200 → La.Good N (FS R) → FewR R → Fts w S' D' b m Q → m ≤ d → m ≤ 200 → FewR Q →
    Calls Try.prog 32 #[.int .i64 N, .slice a n c, .slice b m d] w (Owns w (La.merge N (FS R) (FS Q)))
  has : ∀ {w : World} {S D : Nat → Prop} {a : Option Addr} {n c : Nat} {R : List Fm} (N k e m : Int), Fts w S D a n R → n ≤ c → n ≤ 200 → La.Good N (FS R) →
    Calls Try.prog 29 #[.slice a n c, .int .i64 k, .int .i64 e, .int .i64 m] w fun r w' => r = .returned (.bool (decide (La.has (FS R) k e m))) ∧ Below w.heap.size w w'
  who : ∀ {w : World} {S D : Nat → Prop} {a : Option Addr} {n c : Nat} {R : List Fm} (N k e : Int), Fts w S D a n R → n ≤ c → n ≤ 200 → La.Good N (FS R) →
    Calls Try.prog 21 #[.slice a n c, .int .i64 k, .int .i64 e] w (Whos w (La.who (FS R) k e))
  mani : ∀ {w : World} {S D : Nat → Prop} {a : Option Addr} {n c : Nat} {R : List Fm} (N e : Int), Fts w S D a n R → n ≤ c → n ≤ 200 → La.Good N (FS R) → FewR R →
    Calls Try.prog 17 #[.slice a n c, .int .i64 e] w (ManiQ w (La.mani (FS R) e))
  aborted : ∀ {w : World} {S D : Nat → Prop} {a : Option Addr} {n c : Nat} {R : List Fm} (N e m : Int), Fts w S D a n R → n ≤ c → n ≤ 200 → La.Good N (FS R) →
    Calls Try.prog 23 #[.slice a n c, .int .i64 e, .int .i64 m] w fun r w' => r = .returned (.bool (decide (La.aborted (FS R) e m))) ∧ Below w.heap.size w w'
  best : ∀ {w : World} {S D : Nat → Prop} {a : Option Addr} {n c : Nat} {R : List Fm} (N m : Int), Fts w S D a n R → n ≤ c → n ≤ 200 → La.Good N (FS R) →
    Calls Try.prog 25 #[.slice a n c, .int .i64 m] w fun r w' => r = .returned (.int .i64 (La.best (FS R) m)) ∧ Below w.heap.size w w'
  next : ∀ {w : World} {S D : Nat → Prop} {a : Option Addr} {n c : Nat} {R : List Fm} (N : Int), Fts w S D a n R → n ≤ c → n ≤ 200 → La.Good N (FS R) →
    Calls Try.prog 27 #[.slice a n c] w fun r w' => r = .returned (.int .i64 (La.next (FS R))) ∧ Below w.heap.size w w'
end Go.Proofs.Ytdfmfjahnnifnaa
