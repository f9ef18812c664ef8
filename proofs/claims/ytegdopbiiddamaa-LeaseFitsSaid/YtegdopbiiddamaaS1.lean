/-
  Plain mathematics of leases; leases in memory; the walk of the document's in.
-/
import Derived.Test.YtegdopbiiddamaaMh
namespace Go.Proofs.Ytegdopbiiddamaa.Ln
structure L where
  slot : Int
  nonce : Int
  asked : Int
  fr : List Int
deriving DecidableEq
def takes (p : Dr.P) (l : L) (node slot nonce : Int) : Prop := p.ok ∧ slot = l.slot ∧ nonce = l.nonce ∧ 0 ≤ node ∧ node < p.nodes ∧ node ∉ l.fr
instance (p : Dr.P) (l : L) (node slot nonce : Int) : Decidable (takes p l node slot nonce) := by unfold takes; infer_instance
def grant (p : Dr.P) (l : L) (node slot nonce : Int) : L := if takes p l node slot nonce then { l with fr := l.fr ++ [node] } else l
/-- How many of the first k nodes are among some. -/
def cnt (l : List Int) : Nat → Nat
  | 0 => 0
  | k + 1 => if (k : Int) ∈ l then cnt l k + 1 else cnt l k
def held (p : Dr.P) (l : L) (now : Int) : Bool := p.holds l.asked now && decide (p.maj ≤ (cnt l.fr p.nodes.toNat : Int))
def late (p : Dr.P) (l : L) (now : Int) : Bool := decide (p.ok) && (!held p l now || p.late l.asked now)
def fits (p : Dr.P) (l : L) (now : Int) : Bool := held p l now && decide (p.hold - (now - l.asked) > p.guard + p.work)
def slot (p : Dr.P) (node n : Int) : Int := if p.ok ∧ 0 ≤ node ∧ node ≤ 1000 ∧ 0 ≤ n ∧ n ≤ 1099511627776 then (node + n) % p.slots else 0
theorem cnt_le (l : List Int) : ∀ k, cnt l k ≤ k
  | 0 => Nat.le_refl _
  | k + 1 => by
    have := cnt_le l k
    unfold cnt
    split <;> omega
theorem cnt_more {l l' : List Int} (h : ∀ x ∈ l, x ∈ l') : ∀ k, cnt l k ≤ cnt l' k
  | 0 => Nat.le_refl _
  | k + 1 => by
    have := cnt_more h k
    unfold cnt
    split
    · rename_i e
      rw [if_pos (h _ e)]
      omega
    · split <;> omega
theorem cnt_nil : ∀ k, cnt [] k = 0
  | 0 => rfl
  | k + 1 => by unfold cnt; rw [if_neg (by simp), cnt_nil k]
end Go.Proofs.Ytegdopbiiddamaa.Ln
namespace Go.Proofs.Ytegdopbiiddamaa
open Go.RowKit Go.Great
set_option linter.unusedVariables false
set_option linter.unusedSimpArgs false
set_option maxRecDepth 20000
/-- Rows of whole numbers as rows of a kind. -/
def IE : Elem Int where
  K := 1
  T := 3
  TS := 22
  enc := fun x => [.int .i64 x]
  z := 0
  ok := In64
  bytes := 8
  zero := .int .i64 0
  hK := by omega
  len := fun x => rfl
  one := fun x v hv => by rw [List.mem_singleton.1 hv]; rfl
  und := Try.underlying22
  info := by kernel_rfl
  zs := rfl
  hb := by omega
  hKs := by omega
theorem ns_row {w : World} {S : Nat → Prop} {a : Option Addr} {n : Nat} {l : List Int} (h : Ns w S a n l) : IE.Row w S a n l := by
  obtain ⟨h1, h2, h3⟩ := h
  refine ⟨h1, h2, ?_⟩
  rcases h3 with h | ⟨b, off, rfl, hs, hb, hc⟩
  · exact Or.inl h
  · refine Or.inr ⟨b, off, rfl, hs, hb, fun k hk j v hv => ?_⟩
    have e1 : IE.K = 1 := rfl
    match j, hv with
    | 0, hv =>
      have : v = .int .i64 (l.getD k 0) := (Option.some.inj hv).symm
      rw [e1, Nat.mul_one, Nat.add_zero, this]
      exact hc k hk
theorem row_ns {w : World} {S : Nat → Prop} {a : Option Addr} {n : Nat} {l : List Int} (h : IE.Row w S a n l) : Ns w S a n l := by
  obtain ⟨h1, h2, h3⟩ := h
  refine ⟨h1, h2, ?_⟩
  rcases h3 with h | ⟨b, off, rfl, hs, hb, hc⟩
  · exact Or.inl h
  · refine Or.inr ⟨b, off, rfl, hs, hb, fun k hk => ?_⟩
    have e1 : IE.K = 1 := rfl
    have := hc k hk 0 _ rfl
    rw [e1, Nat.mul_one, Nat.add_zero] at this
    exact this
def lcs (s no a : Int) (ad : Option Addr) (n c : Nat) : Array Value := #[.int .i64 s, .int .i64 no, .int .i64 a, .slice ad n c]
/-- The cells V are those of the lease l. -/
def Lse (w : World) (V : Array Value) (l : Ln.L) : Prop := ∃ ad n c, V = lcs l.slot l.nonce l.asked ad n c ∧ Ns w Any ad n l.fr ∧ n ≤ c ∧ In64 l.slot ∧ In64 l.nonce ∧ In64 l.asked
theorem Lse.on {w w' : World} {V : Array Value} {l : Ln.L} (h : Lse w V l) (hb : Below w.heap.size w w') : Lse w' V l := by
  obtain ⟨ad, n, c, e, h1, h2⟩ := h
  exact ⟨ad, n, c, e, h1.below hb (fun _ h _ => h), h2⟩
theorem Lse.size {w : World} {V : Array Value} {l : Ln.L} (h : Lse w V l) : V.size = 4 := by
  obtain ⟨ad, n, c, rfl, _⟩ := h
  rfl
theorem Lse.one {w : World} {V : Array Value} {l : Ln.L} (h : Lse w V l) : V.all (·.oneCell') = true := by
  obtain ⟨ad, n, c, rfl, _⟩ := h
  simp [lcs, Value.oneCell']
theorem info_ls : (Try.prog.info? 26).map (·.size) = some 4 := by kernel_rfl
def LseQ (w : World) (l : Ln.L) (e : Ending) (w' : World) : Prop := ∃ V, e = .returned (.agg V) ∧ Lse w' V l ∧ Below w.heap.size w w'
/-- A lease in its block. -/
def Lb (w : World) (g : Nat) (V : Array Value) (l : Ln.L) : Prop := Whole w g 26 V ∧ Lse w V l
theorem Lb.on {w w' : World} {g : Nat} {V : Array Value} {l : Ln.L} (h : Lb w g V l) (hb : Below w.heap.size w w') : Lb w' g V l := ⟨h.1.below hb h.1.lt, h.2.on hb⟩
theorem Lb.new {w : World} {V : Array Value} {l : Ln.L} (h : Lse w V l) : Lb (w.alloc (.cells V 26)) w.heap.size V l := ⟨Whole.new w _ _, h.on (below_alloc w _)⟩
set_option maxHeartbeats 4000000 in
theorem rin_any {w : World} {S : Nat → Prop} {a : Option Addr} {n c : Nat} {l : List Int} (h : Ns w S a n l) (hn : n ≤ 1000000) (x : Int) : Calls Try.prog 32 #[.slice a n c, .int .i64 x] w fun e w' => e = .returned (.bool (decide (x ∈ l))) ∧ Below w.heap.size w w' := by
  obtain ⟨t, ht⟩ : ∃ t, decide (x ∈ l) = t := ⟨_, rfl⟩
  rw [ht]
  have HT := Lib.hid ht
  have HL := Lib.hid h.1
  have H0 : Hid (Ns w S a n l ∧ Below w.heap.size w w) := Lib.hid ⟨h, Below.refl _ _⟩
  clear h ht
  go_enter Try.func32, Try.ntmps32
  go_wp2
  go_loopw [5] (fun v wr => ∃ k : Nat, k ≤ n ∧ v = .int .i64 (k : Int) ∧ wr = w ∧ Hid (x ∉ l.take k)) (fun v _ => n - (intOf v).toNat)
  case atStart => exact ⟨0, Nat.zero_le _, rfl, rfl, Lib.hid (by simp)⟩
  case round =>
    obtain ⟨k, hk, rfl, rfl, HX⟩ := hrel
    by_cases hlt : k < n
    · have q1 : (k : Int) < (n : Int) := by omega
      obtain ⟨b, off, rfl, _, _, hc⟩ := H0.out.1.cell hlt
      obtain ⟨y, hy⟩ : ∃ y, l.getD k 0 = y := ⟨_, rfl⟩
      rw [hy] at hc
      have hkl : k < l.length := by rw [HL.out]; exact hlt
      have e0 : l.getD k 0 = l[k] := by simp [hkl]
      have hs : l.take (k + 1) = l.take k ++ [y] := by rw [List.take_add_one, List.getElem?_eq_getElem hkl, ← hy, e0]; rfl
      by_cases z : y = x
      · have q2 : (y == x) = true := by simp [z]
        have HE : Hid (t = true) := Lib.hid (by rw [← HT.out]; exact decide_eq_true (by rw [← z, ← hy, e0]; exact List.getElem_mem hkl))
        clear z hs hy e0
        go_wp2
        go_ret
        exact ⟨ret_bool HE.out.symm, H0.out.2⟩
      · have q2 : (y == x) = false := by simp [z]
        have HX2 : Hid (x ∉ l.take (k + 1)) := Lib.hid (by
          rw [hs]
          intro hm
          rcases List.mem_append.1 hm with hm | hm
          · exact HX.out hm
          · exact z (List.mem_singleton.1 hm).symm)
        clear z hs hy e0
        go_wp2
        exact ⟨⟨k + 1, by omega, by go_num, (by first | trivial | rfl), HX2⟩, by simp [intOf] <;> omega⟩
    · have q1 : ¬ ((k : Int) < (n : Int)) := by omega
      have HE : Hid (t = false) := Lib.hid (by
        rw [← HT.out]
        refine decide_eq_false fun hm => HX.out ?_
        rw [List.take_of_length_le (by rw [HL.out]; omega)]
        exact hm)
      go_wp2
      go_ret
      exact ⟨ret_bool HE.out.symm, H0.out.2⟩
end Go.Proofs.Ytegdopbiiddamaa
