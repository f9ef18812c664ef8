/-
  What the package's functions are to answer of leases, and where (Les); rows of rows of whole numbers; the walks of the statements' told and wait.
-/
import Derived.Test.YtegdopbiiddamaaSd
import Derived.Test.YtegdopbiiddamaaS5
namespace Go.Proofs.Ytegdopbiiddamaa
open Go.RowKit Go.Great
set_option linter.unusedVariables false
set_option linter.unusedSimpArgs false
set_option maxRecDepth 20000
/-- A lease whose row lies in a block of S. -/
def LseS (w : World) (S : Nat → Prop) (V : Array Value) (l : Ln.L) : Prop := ∃ ad n c, V = lcs l.slot l.nonce l.asked ad n c ∧ Ns w S ad n l.fr ∧ n ≤ c ∧ In64 l.slot ∧ In64 l.nonce ∧ In64 l.asked
theorem LseS.lse {w : World} {S : Nat → Prop} {V : Array Value} {l : Ln.L} (h : LseS w S V l) : Lse w V l := by
  obtain ⟨ad, n, c, e, h1, h2⟩ := h
  exact ⟨ad, n, c, e, h1.weak (fun _ _ _ => trivial), h2⟩
theorem LseS.weak {w : World} {S S' : Nat → Prop} {V : Array Value} {l : Ln.L} (h : LseS w S V l) (hs : ∀ b, b < w.heap.size → S b → S' b) : LseS w S' V l := by
  obtain ⟨ad, n, c, e, h1, h2⟩ := h
  exact ⟨ad, n, c, e, h1.weak hs, h2⟩
theorem LseS.keep {w w' : World} {S : Nat → Prop} {V : Array Value} {l : Ln.L} (h : LseS w S V l) (hz : w.heap.size ≤ w'.heap.size) (hk : ∀ b, b < w.heap.size → S b → w'.heap[b]? = w.heap[b]?) : LseS w' S V l := by
  obtain ⟨ad, n, c, e, h1, h2⟩ := h
  exact ⟨ad, n, c, e, h1.keep hz hk, h2⟩
theorem LseS.on {w w' : World} {S : Nat → Prop} {V : Array Value} {l : Ln.L} (h : LseS w S V l) (hb : Below w.heap.size w w') : LseS w' S V l := h.keep hb.size fun b hlt _ => hb.block b hlt
def LseSQ (w : World) (S : Nat → Prop) (l : Ln.L) (e : Ending) (w' : World) : Prop := ∃ V, e = .returned (.agg V) ∧ LseS w' S V l ∧ Below w.heap.size w w'
/-- What the package's functions are to answer, and where. -/
structure Les : Prop where
  ask : ∀ (w : World) (s no now : Int), In64 s → In64 no → In64 now → Calls Try.prog 13 #[.int .i64 s, .int .i64 no, .int .i64 now] w (LseSQ w (fun b => w.heap.size ≤ b) ⟨s, no, now, []⟩)
  grant : ∀ {w : World} {S T : Nat → Prop} {C V : Array Value} {p : Dr.P} {l : Ln.L}, Cc w S C p → LseS w T V l → l.fr.length ≤ 1000 → ∀ (node s no : Int), In64 node → In64 s → In64 no →
    Calls Try.prog 11 #[.agg C, .agg V, .int .i64 node, .int .i64 s, .int .i64 no] w (LseSQ w (fun b => T b ∨ w.heap.size ≤ b) (Ln.grant p l node s no))
  held : ∀ {w : World} {S : Nat → Prop} {C V : Array Value} {p : Dr.P} {l : Ln.L}, Cc w S C p → Lse w V l → l.fr.length ≤ 1000 → ∀ (now : Int), In64 now → Calls Try.prog 14 #[.agg C, .agg V, .int .i64 now] w fun e w' => e = .returned (.bool (Ln.held p l now)) ∧ Below w.heap.size w w'
/-- Rows of rows of whole numbers. -/
def Gns (w : World) (S : Nat → Prop) (a : Option Addr) (n : Nat) (l : List (List Int)) : Prop :=
  l.length = n ∧ (l = [] ∨ ∃ b off, a = some ⟨b, off, none⟩ ∧ b < w.heap.size ∧ S b ∧ ∀ k, k < n → ∃ ad m c, w.cell? ⟨b, off + k, none⟩ = some (.slice ad m c) ∧ Ns w S ad m (l.getD k []))
theorem Gns.keep {w w' : World} {S : Nat → Prop} {a : Option Addr} {n : Nat} {l : List (List Int)} (h : Gns w S a n l) (hz : w.heap.size ≤ w'.heap.size) (hk : ∀ b, b < w.heap.size → S b → w'.heap[b]? = w.heap[b]?) : Gns w' S a n l := by
  obtain ⟨h1, h2⟩ := h
  refine ⟨h1, ?_⟩
  rcases h2 with h | ⟨b, off, rfl, hb, hS, hc⟩
  · exact Or.inl h
  · refine Or.inr ⟨b, off, rfl, by omega, hS, fun k hk' => ?_⟩
    obtain ⟨ad, m, c, e, hn⟩ := hc k hk'
    exact ⟨ad, m, c, (World.cell?_of_block (w := w) (hk b hb hS)).trans e, hn.keep hz hk⟩
theorem Gns.below {w w' : World} {S : Nat → Prop} {B : Nat} {a : Option Addr} {n : Nat} {l : List (List Int)} (h : Gns w S a n l) (hb : Below B w w') (hs : ∀ b, b < w.heap.size → S b → b < B) : Gns w' S a n l :=
  h.keep hb.size fun b hlt hS => hb.block b (hs b hlt hS)
theorem Gns.weak {w : World} {S S' : Nat → Prop} {a : Option Addr} {n : Nat} {l : List (List Int)} (h : Gns w S a n l) (hs : ∀ b, b < w.heap.size → S b → S' b) : Gns w S' a n l := by
  obtain ⟨h1, h2⟩ := h
  refine ⟨h1, ?_⟩
  rcases h2 with h | ⟨b, off, rfl, hb, hS, hc⟩
  · exact Or.inl h
  · refine Or.inr ⟨b, off, rfl, hb, hs b hb hS, fun k hk' => ?_⟩
    obtain ⟨ad, m, c, e, hn⟩ := hc k hk'
    exact ⟨ad, m, c, e, hn.weak hs⟩
/-- What is told of a node's clock at a tick. -/
def tld (l : List (List Int)) (t n : Nat) : Int :=
  if l.length = 0 then 1000 else if (l.getD (t % l.length) []).length ≤ n then 1000 else (l.getD (t % l.length) []).getD n 0
theorem tld_in {w : World} {S : Nat → Prop} {a : Option Addr} {m : Nat} {l : List (List Int)} (h : Gns w S a m l) (t n : Nat) : In64 (tld l t n) := by
  unfold tld
  split
  · constructor <;> omega
  · rename_i h0
    split
    · constructor <;> omega
    · rcases h.2 with h2 | ⟨b, off, _, _, _, hc⟩
      · rw [h2] at h0; exact absurd rfl h0
      · have hlt : t % l.length < l.length := Nat.mod_lt _ (by omega)
        obtain ⟨ad, m', c, _, hn⟩ := hc (t % l.length) (by rw [← h.1]; exact hlt)
        exact hn.in64 n
set_option maxHeartbeats 2000000 in
theorem told_any {w : World} {S : Nat → Prop} {a : Option Addr} {m c : Nat} {l : List (List Int)} (h : Gns w S a m l) (t n : Nat) (ht : t ≤ 1000) (hn : n ≤ 1000) :
    Calls Try.prog 25 #[.slice a m c, .int .i64 (t : Int), .int .i64 (n : Int)] w fun e w' => e = .returned (.int .i64 (tld l t n)) ∧ w' = w := by
  obtain ⟨r, hr⟩ : ∃ r, tld l t n = r := ⟨_, rfl⟩
  rw [hr]
  have HR := Lib.hid hr
  clear hr
  by_cases h0 : m = 0
  · have q1 : ((m : Int) == 0) = true := by simp [h0]
    have HV : Hid (r = 1000) := Lib.hid (by rw [← HR.out]; unfold tld; rw [if_pos (by rw [h.1]; exact h0)])
    clear h0 h
    go_enter Try.func25, Try.ntmps25
    go_wp2
    go_ret
    exact ⟨ret_i64 HV.out.symm, rfl⟩
  · have q1 : ((m : Int) == 0) = false := by simp [h0]
    obtain ⟨k, hk⟩ : ∃ k, t % m = k := ⟨_, rfl⟩
    have hkm : k < m := by rw [← hk]; exact Nat.mod_lt _ (by omega)
    have hl := h.1
    rcases h.2 with h2 | ⟨b, off, rfl, hb, _, hc⟩
    · rw [h2] at hl; simp at hl; omega
    obtain ⟨ad, m', c', hcell, hns⟩ := hc k hkm
    have hrem : ((t : Int)).tmod (m : Int) = (k : Int) := by rw [← hk]; rfl
    have hrem2 : ((t : Int)) % (m : Int) = (k : Int) := by rw [← hk]; rfl
    have hkt : k ≤ t := by rw [← hk]; exact Nat.mod_le _ _
    have hwk : IntKind.i64.wrap (k : Int) = (k : Int) := by rw [IntKind.wrap_i64]; omega
    have hv : r = if m' ≤ n then 1000 else (l.getD k []).getD n 0 := by
      rw [← HR.out]
      unfold tld
      rw [hl, if_neg h0, hk, hns.1]
    have HV := Lib.hid hv
    have qm : ¬ ((m : Int) = 0) := by omega
    have q0 : (m : Int) ≠ 0 := by omega
    clear hc hl hv h0 h
    by_cases hnm : m' ≤ n
    · have q2 : (n : Int) ≥ (m' : Int) := by omega
      have HV2 : Hid (r = 1000) := Lib.hid (by rw [HV.out, if_pos hnm])
      clear hns hnm
      go_enter Try.func25, Try.ntmps25
      go_wp2
      go_ret
      exact ⟨ret_i64 HV2.out.symm, rfl⟩
    · have q2 : ¬ ((n : Int) ≥ (m' : Int)) := by omega
      obtain ⟨b', off', rfl, _, _, hcn⟩ := hns.cell (k := n) (by omega)
      obtain ⟨x, hx⟩ : ∃ x, (l.getD k []).getD n 0 = x := ⟨_, rfl⟩
      rw [hx] at hcn
      have HV2 : Hid (r = x) := Lib.hid (by rw [HV.out, if_neg hnm, hx])
      clear hns hnm hx
      go_enter Try.func25, Try.ntmps25
      go_wp2
      go_ret
      exact ⟨ret_i64 HV2.out.symm, rfl⟩
/-- How many ticks a node waits. -/
def wt (l : List Int) (n : Nat) : Nat := if l.length ≤ n then 0 else (l.getD n 0).toNat % 20
theorem wt_lt (l : List Int) (n : Nat) : wt l n < 20 := by unfold wt; split <;> omega
set_option maxHeartbeats 2000000 in
theorem wait_any {w : World} {S : Nat → Prop} {a : Option Addr} {m c : Nat} {l : List Int} (h : Txt w S a m c l) (n : Nat) (hn : n ≤ 1000) :
    Calls Try.prog 26 #[.slice a m c, .int .i64 (n : Int)] w fun e w' => e = .returned (.int .i64 (wt l n : Int)) ∧ w' = w := by
  obtain ⟨r, hr⟩ : ∃ r, wt l n = r := ⟨_, rfl⟩
  rw [hr]
  have HR := Lib.hid hr
  clear hr
  by_cases h0 : m ≤ n
  · have q1 : (n : Int) ≥ (m : Int) := by omega
    have HV : Hid (r = 0) := Lib.hid (by rw [← HR.out]; unfold wt; rw [if_pos (by rw [h.1]; exact h0)])
    clear h0 h
    go_enter Try.func26, Try.ntmps26
    go_wp2
    go_ret
    exact ⟨ret_i64 (by rw [HV.out]; rfl), rfl⟩
  · have q1 : ¬ ((n : Int) ≥ (m : Int)) := by omega
    obtain ⟨b, off, rfl, _, _, hc⟩ := h.cell (k := n) (by omega)
    have hb := h.byte n
    have hv : wt l n = (l.getD n 0).toNat % 20 := by unfold wt; rw [if_neg (by rw [h.1]; exact h0)]
    obtain ⟨x, hx⟩ : ∃ x : Nat, l.getD n 0 = (x : Int) := ⟨(l.getD n 0).toNat, by omega⟩
    rw [hx] at hc hb hv
    rw [Int.toNat_natCast] at hv
    have HV : Hid (x % 20 = r) := Lib.hid (by rw [← hv]; exact HR.out)
    have hx3 : IntKind.i64.wrap (x : Int) = (x : Int) := by rw [IntKind.wrap_i64]; omega
    clear h h0 hv hx
    go_enter Try.func26, Try.ntmps26
    go_wp2
    go_ret
    exact ⟨ret_i64 (by rw [← HV.out]; rfl), rfl⟩
end Go.Proofs.Ytegdopbiiddamaa
