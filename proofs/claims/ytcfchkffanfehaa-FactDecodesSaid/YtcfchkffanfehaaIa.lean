/-
  Plain mathematics of facts: whose an epoch is, which facts may be, which comes first, their bytes, and what bytes are one.
-/
import Derived.Test.YtcfchkffanfehaaZq
namespace Ft
open Go.Proofs.Ytcfchkffanfehaa
def isEp (e : Int) : Prop := 16 ≤ e ∧ e ≤ 1099511627776
instance (e : Int) : Decidable (isEp e) := inferInstanceAs (Decidable (_ ∧ _))
/-- Whose an epoch is, and which of its. -/
def ofN (e : Int) : Int := if isEp e then e % 16 else 0
def ofK (e : Int) : Int := if isEp e then e / 16 else 0
def may (node n : Int) : Prop := 0 ≤ node ∧ node < 9 ∧ 1 ≤ n ∧ 16 * n + node ≤ 1099511627776
instance (a b : Int) : Decidable (may a b) := inferInstanceAs (Decidable (_ ∧ _))
def ep (node n : Int) : Int := if may node n then 16 * n + node else 0
/-- A fact. -/
structure Fact where
  kind : Int
  epoch : Int
  node : Int
  man : Mf.Man
def emp (m : Mf.Man) : Prop := m.size = 0 ∧ m.chunk = 0 ∧ m.ds.length = 0 ∧ m.wh = zs 32
instance (m : Mf.Man) : Decidable (emp m) := inferInstanceAs (Decidable (_ ∧ _))
def Fact.fits (f : Fact) (node : Int) : Prop := (f.kind = 1 ∧ f.node = node ∧ ¬ f.man.bad) ∨ ((f.kind = 2 ∨ f.kind = 3) ∧ emp f.man)
instance (f : Fact) (n : Int) : Decidable (f.fits n) := inferInstanceAs (Decidable (_ ∨ _))
def Fact.ok (f : Fact) (nodes : Int) : Prop := 1 ≤ nodes ∧ nodes ≤ 9 ∧ 0 ≤ f.node ∧ f.node < nodes ∧ isEp f.epoch ∧ f.epoch % 16 < nodes ∧ f.fits (f.epoch % 16)
instance (f : Fact) (n : Int) : Decidable (f.ok n) := inferInstanceAs (Decidable (_ ∧ _))
def Fact.chk (f : Fact) (nodes : Int) : Int := if f.ok nodes then 0 else 100
/-- Which comes first. -/
def Fact.less (a b : Fact) : Prop := a.epoch < b.epoch ∨ (a.epoch = b.epoch ∧ (a.kind < b.kind ∨ (a.kind = b.kind ∧ a.node < b.node)))
instance (a b : Fact) : Decidable (a.less b) := inferInstanceAs (Decidable (_ ∨ _))
def Fact.tail (f : Fact) : List Int := if f.kind = 1 then Cd.num ((Mf.body f.man).length : Nat) ++ Mf.body f.man else []
def Fact.bytes (f : Fact) : List Int := Cd.num f.kind ++ (Cd.num f.epoch ++ (Cd.num f.node ++ f.tail))
/-- What a fact has that lies in memory. -/
def Fact.wf (f : Fact) : Prop := (∀ d ∈ f.man.ds, Dig d) ∧ Dig f.man.wh
def nought : Fact := ⟨0, 0, 0, Mf.zero⟩
theorem emp_zero {m : Mf.Man} (h : emp m) : m = Mf.zero := by
  obtain ⟨s, c, ds, wh⟩ := m
  obtain ⟨h1, h2, h3, h4⟩ := h
  simp only at h1 h2 h3 h4
  have : ds = [] := List.length_eq_zero_iff.1 h3
  subst h1 h2 h4 this
  rfl
theorem zero_emp : emp Mf.zero := ⟨rfl, rfl, rfl, rfl⟩
theorem zero_bad : Mf.Man.bad Mf.zero := Or.inl rfl
theorem chk_ok {f : Fact} {n : Int} (h : f.ok n) : f.chk n = 0 := if_pos h
theorem chk_no {f : Fact} {n : Int} (h : ¬ f.ok n) : f.chk n = 100 := if_neg h
theorem chk_zero {f : Fact} {n : Int} : f.chk n = 0 ↔ f.ok n := by
  unfold Fact.chk
  by_cases h : f.ok n
  · rw [if_pos h]; exact ⟨fun _ => h, fun _ => rfl⟩
  · rw [if_neg h]; exact ⟨fun e => by omega, fun e => absurd e h⟩
theorem chk_two (f : Fact) (n : Int) : f.chk n = 0 ∨ f.chk n = 100 := by
  unfold Fact.chk; split
  · exact Or.inl rfl
  · exact Or.inr rfl
/-- More nodes. -/
theorem ok_more {f : Fact} {n m : Int} (h : f.ok n) (h1 : n ≤ m) (h2 : m ≤ 9) : f.ok m := by
  obtain ⟨a1, a2, a3, a4, a5, a6, a7⟩ := h
  exact ⟨by omega, h2, a3, by omega, a5, by omega, a7⟩
theorem ok_kind {f : Fact} {n : Int} (h : f.ok n) : 1 ≤ f.kind ∧ f.kind ≤ 3 := by
  rcases h.2.2.2.2.2.2 with h | h <;> omega
theorem ok_in {f : Fact} {n : Int} (h : f.ok n) : 1 ≤ f.kind ∧ f.kind ≤ 3 ∧ 16 ≤ f.epoch ∧ f.epoch ≤ 1099511627776 ∧ 0 ≤ f.node ∧ f.node ≤ 8 := by
  have hk := ok_kind h
  obtain ⟨a1, a2, a3, a4, ⟨a5, a6⟩, _⟩ := h
  omega
theorem ok_one {f : Fact} {n : Int} (h : f.ok n) (hk : f.kind = 1) : ¬ f.man.bad := by
  rcases h.2.2.2.2.2.2 with h | h
  · exact h.2.2
  · omega
theorem ok_else {f : Fact} {n : Int} (h : f.ok n) (hk : f.kind ≠ 1) : f.man = Mf.zero := by
  rcases h.2.2.2.2.2.2 with h | h
  · exact absurd h.1 hk
  · exact emp_zero h.2
theorem body_le {m : Mf.Man} (hb : ¬ m.bad) (h : ∀ d ∈ m.ds, Dig d) (hw : Dig m.wh) : (Mf.body m).length ≤ 2100 := by
  have hn : Mf.cnt m.size m.chunk ≠ 0 := fun e => hb (Or.inl e)
  have hl : m.ds.length = Mf.cnt m.size m.chunk := Decidable.byContradiction fun e => hb (Or.inr e)
  obtain ⟨h1, h2, h3, h4⟩ := Mf.cnt_in hn
  have h5 := Mf.cnt_le m.size m.chunk
  have h6 := Cd.num_len (n := m.size) (by omega) (by omega)
  have h7 := Cd.num_len (n := m.chunk) (by omega) (by omega)
  rw [Mf.body_len h hw]
  omega
theorem body_byt {m : Mf.Man} (h : ∀ d ∈ m.ds, Dig d) (hw : Dig m.wh) : Byt (Mf.body m) :=
  byt_append (Cd.byt_num _) (byt_append (Cd.byt_num _) (byt_append (Mf.byt_flatten h) hw.2))
theorem tail_byt {f : Fact} (h : f.wf) : Byt f.tail := by
  unfold Fact.tail
  split
  · exact byt_append (Cd.byt_num _) (body_byt h.1 h.2)
  · exact byt_nil
theorem bytes_byt {f : Fact} (h : f.wf) : Byt f.bytes := byt_append (Cd.byt_num _) (byt_append (Cd.byt_num _) (byt_append (Cd.byt_num _) (tail_byt h)))
theorem tail_le {f : Fact} {n : Int} (h : f.wf) (ho : f.ok n) : f.tail.length ≤ 2110 := by
  unfold Fact.tail
  split
  · rename_i hk
    have h1 := body_le (ok_one ho hk) h.1 h.2
    have h2 := Cd.num_len (n := ((Mf.body f.man).length : Nat)) (by omega) (by omega)
    rw [List.length_append]
    omega
  · exact Nat.zero_le _
theorem bytes_le {f : Fact} {n : Int} (h : f.wf) (ho : f.ok n) : f.bytes.length ≤ 2140 := by
  have h1 := tail_le h ho
  obtain ⟨k1, k2, k3, k4, k5, k6⟩ := ok_in ho
  have h2 := Cd.num_len (n := f.kind) (by omega) (by omega)
  have h3 := Cd.num_len (n := f.epoch) (by omega) (by omega)
  have h4 := Cd.num_len (n := f.node) (by omega) (by omega)
  unfold Fact.bytes
  simp only [List.length_append]
  omega
/-- The fact of three numbers, and of bytes behind them. -/
def decT (k e n : Int) (r : List Int) (most : Int) : Option Fact :=
  if k = 1 then
    match Co.txtOf most r with
    | none => none
    | some (t, q) => match Mf.dec t with
      | none => none
      | some m => if q = [] then some ⟨k, e, n, m⟩ else none
  else if r = [] then some ⟨k, e, n, Mf.zero⟩ else none
def fine (o : Option Fact) : Option Fact :=
  match o with
  | none => none
  | some f => if f.ok 9 then some f else none
/-- The fact that bytes are. -/
def decM (b : List Int) (most : Int) : Option Fact :=
  match Cd.get 1 3 b with
  | none => none
  | some (k, r1) => match Cd.get 16 1099511627776 r1 with
    | none => none
    | some (e, r2) => match Cd.get 0 8 r2 with
      | none => none
      | some (n, r3) => fine (decT k e n r3 most)
def dec (b : List Int) : Option Fact := decM b (b.length : Nat)
theorem txt_some {most : Int} {r t q : List Int} (hb : Byt r) (h : Co.txtOf most r = some (t, q)) : r = Cd.num (t.length : Nat) ++ (t ++ q) ∧ (t.length : Int) ≤ most := by
  unfold Co.txtOf at h
  cases h1 : Cd.get 0 most r with
  | none => rw [h1] at h; cases h
  | some x =>
    obtain ⟨n, r'⟩ := x
    rw [h1] at h
    simp only at h
    obtain ⟨_, _, g3, g4, g5⟩ := Cd.get_enc h1 hb
    split at h
    · rename_i hle
      injection h with h
      injection h with h h'
      subst h h'
      have hl : ((r'.take n.toNat).length : Int) = n := by rw [List.length_take]; omega
      rw [hl, List.take_append_drop]
      exact ⟨g5, g4⟩
    · cases h
theorem txt_back {most : Int} {t q : List Int} (h : (t.length : Int) ≤ most) (hl : t.length ≤ 1099511627776) : Co.txtOf most (Cd.num (t.length : Nat) ++ (t ++ q)) = some (t, q) := by
  unfold Co.txtOf
  rw [Cd.get_num (by omega) (by omega) (by omega) h]
  simp only
  rw [if_pos (by rw [List.length_append]; omega), Int.toNat_natCast, List.take_left, List.drop_left]
/-- What is written is read. -/
theorem decM_bytes {f : Fact} {most : Int} (ho : f.ok 9) (h : f.wf) (hm : ((Mf.body f.man).length : Int) ≤ most ∨ f.kind ≠ 1) : decM f.bytes most = some f := by
  obtain ⟨k1, k2, k3, k4, k5, k6⟩ := ok_in ho
  unfold decM Fact.bytes
  rw [Cd.get_num (by omega) (by omega) k1 k2]
  simp only
  rw [Cd.get_num (by omega) (by omega) k3 k4]
  simp only
  rw [Cd.get_num (by omega) (by omega) k5 k6]
  simp only
  have : decT f.kind f.epoch f.node f.tail most = some f := by
    unfold decT Fact.tail
    by_cases hk : f.kind = 1
    · rw [if_pos hk, if_pos hk]
      have hb := ok_one ho hk
      have hle := body_le hb h.1 h.2
      have := txt_back (most := most) (t := Mf.body f.man) (q := []) (by rcases hm with hm | hm; exact hm; exact absurd hk hm) (by omega)
      rw [List.append_nil] at this
      rw [this]
      simp only
      rw [Mf.dec_body hb h.1 h.2]
      simp
    · rw [if_neg hk, if_neg hk, if_pos rfl, ← ok_else ho hk]
  rw [this]
  unfold fine
  simp only
  rw [if_pos ho]
theorem bytes_tail_le {f : Fact} (hk : f.kind = 1) : (Mf.body f.man).length ≤ f.bytes.length := by
  unfold Fact.bytes Fact.tail
  rw [if_pos hk]
  simp only [List.length_append]
  omega
theorem dec_bytes {f : Fact} (ho : f.ok 9) (h : f.wf) : dec f.bytes = some f := by
  unfold dec
  refine decM_bytes ho h ?_
  by_cases hk : f.kind = 1
  · left; have := bytes_tail_le hk; omega
  · right; exact hk
theorem decM_some {b : List Int} {most : Int} {f : Fact} (hb : Byt b) (h : decM b most = some f) : f.ok 9 ∧ f.wf ∧ f.bytes = b := by
  unfold decM at h
  cases e1 : Cd.get 1 3 b with
  | none => rw [e1] at h; cases h
  | some x =>
    obtain ⟨k, r1⟩ := x
    rw [e1] at h
    simp only at h
    obtain ⟨_, _, _, _, q1⟩ := Cd.get_enc e1 hb
    have hb1 : Byt r1 := byt_right (a := Cd.num k) (by rw [← q1]; exact hb)
    cases e2 : Cd.get 16 1099511627776 r1 with
    | none => rw [e2] at h; cases h
    | some y =>
      obtain ⟨e, r2⟩ := y
      rw [e2] at h
      simp only at h
      obtain ⟨_, _, _, _, q2⟩ := Cd.get_enc e2 hb1
      have hb2 : Byt r2 := byt_right (a := Cd.num e) (by rw [← q2]; exact hb1)
      cases e3 : Cd.get 0 8 r2 with
      | none => rw [e3] at h; cases h
      | some z =>
        obtain ⟨n, r3⟩ := z
        rw [e3] at h
        simp only at h
        obtain ⟨_, _, _, _, q3⟩ := Cd.get_enc e3 hb2
        have hb3 : Byt r3 := byt_right (a := Cd.num n) (by rw [← q3]; exact hb2)
        cases e4 : decT k e n r3 most with
        | none => rw [e4] at h; cases h
        | some g =>
          rw [e4] at h
          unfold fine at h
          simp only at h
          split at h
          · rename_i hok
            injection h with h
            subst h
            refine ⟨hok, ?_⟩
            have key : (g.kind = k ∧ g.epoch = e ∧ g.node = n) ∧ g.wf ∧ g.tail = r3 := by
              unfold decT at e4
              by_cases hk : k = 1
              · rw [if_pos hk] at e4
                cases e5 : Co.txtOf most r3 with
                | none => rw [e5] at e4; cases e4
                | some u =>
                  obtain ⟨t, q⟩ := u
                  rw [e5] at e4
                  simp only at e4
                  obtain ⟨g1, _⟩ := txt_some hb3 e5
                  have hbt : Byt t := byt_left (b := q) (byt_right (a := Cd.num (t.length : Nat)) (by rw [← g1]; exact hb3))
                  cases e6 : Mf.dec t with
                  | none => rw [e6] at e4; cases e4
                  | some m =>
                    rw [e6] at e4
                    simp only at e4
                    obtain ⟨_, d2, d3, d4⟩ := Mf.dec_some hbt e6
                    split at e4
                    · rename_i hq
                      injection e4 with e4
                      subst e4 hq
                      refine ⟨⟨rfl, rfl, rfl⟩, ⟨d3, d4⟩, ?_⟩
                      unfold Fact.tail
                      simp only
                      rw [if_pos hk, d2, g1, List.append_nil]
                    · cases e4
              · rw [if_neg hk] at e4
                split at e4
                · rename_i hr
                  injection e4 with e4
                  subst e4 hr
                  refine ⟨⟨rfl, rfl, rfl⟩, ⟨(fun d hd => by cases hd), ⟨rfl, byt_zeros 32⟩⟩, ?_⟩
                  unfold Fact.tail
                  rw [if_neg hk]
                · cases e4
            obtain ⟨⟨rfl, rfl, rfl⟩, hwf, ht⟩ := key
            refine ⟨hwf, ?_⟩
            unfold Fact.bytes
            rw [ht, ← q3, ← q2, ← q1]
          · cases h
theorem dec_some {b : List Int} {f : Fact} (hb : Byt b) (h : dec b = some f) : f.ok 9 ∧ f.wf ∧ f.bytes = b := decM_some hb h
theorem dec_none {b : List Int} (h : dec b = none) {f : Fact} (ho : f.ok 9) (hw : f.wf) : f.bytes ≠ b := by
  intro e
  have := dec_bytes ho hw
  rw [e, h] at this
  cases this
/-- Facts that may be are told apart by their bytes. -/
theorem bytes_inj {f g : Fact} (ho : f.ok 9) (hw : f.wf) (ho' : g.ok 9) (hw' : g.wf) : f.bytes = g.bytes ↔ f = g := by
  refine ⟨fun h => ?_, fun h => by rw [h]⟩
  have h1 := dec_bytes ho hw
  rw [h, dec_bytes ho' hw'] at h1
  injection h1 with h1
  exact h1.symm
/-- With a byte more bytes are no fact. -/
theorem dec_more {f : Fact} (ho : f.ok 9) (hw : f.wf) (y : Int) (hy : 0 ≤ y ∧ y < 256) : dec (f.bytes ++ [y]) = none := by
  cases h : dec (f.bytes ++ [y]) with
  | none => rfl
  | some g =>
    exfalso
    have hb : Byt (f.bytes ++ [y]) := byt_append (bytes_byt hw) (byt_cons hy.1 hy.2 byt_nil)
    obtain ⟨g1, g2, g3⟩ := dec_some hb h
    have e1 := decM_bytes (most := 10000) g1 g2 (by by_cases hk : g.kind = 1; left; have := body_le (ok_one g1 hk) g2.1 g2.2; omega; right; exact hk)
    have e2 := decM_bytes (most := 10000) ho hw (by by_cases hk : f.kind = 1; left; have := body_le (ok_one ho hk) hw.1 hw.2; omega; right; exact hk)
    rw [g3] at e1
    have hlen : g.bytes.length = f.bytes.length + 1 := by rw [g3]; simp
    -- the three numbers are the same, so that the kinds are; then the tails
    have hsame : g.kind = f.kind ∧ g.epoch = f.epoch ∧ g.node = f.node ∧ g.tail = f.tail ++ [y] := by
      obtain ⟨k1, k2, k3, k4, k5, k6⟩ := ok_in ho
      obtain ⟨l1, l2, l3, l4, l5, l6⟩ := ok_in g1
      have hc : Cd.num g.kind ++ (Cd.num g.epoch ++ (Cd.num g.node ++ g.tail)) = Cd.num f.kind ++ (Cd.num f.epoch ++ (Cd.num f.node ++ (f.tail ++ [y]))) := by
        have := g3
        unfold Fact.bytes at this
        rw [this]
        simp only [List.append_assoc]
      have a1 := Cd.get_num (n := g.kind) (by omega) (by omega) l1 l2 (Cd.num g.epoch ++ (Cd.num g.node ++ g.tail))
      rw [hc, Cd.get_num (n := f.kind) (by omega) (by omega) k1 k2] at a1
      injection a1 with a1
      injection a1 with a1 hc
      have a2 := Cd.get_num (n := g.epoch) (by omega) (by omega) l3 l4 (Cd.num g.node ++ g.tail)
      rw [← hc, Cd.get_num (n := f.epoch) (by omega) (by omega) k3 k4] at a2
      injection a2 with a2
      injection a2 with a2 hc
      have a3 := Cd.get_num (n := g.node) (by omega) (by omega) l5 l6 g.tail
      rw [← hc, Cd.get_num (n := f.node) (by omega) (by omega) k5 k6] at a3
      injection a3 with a3
      injection a3 with a3 hc
      exact ⟨a1.symm, a2.symm, a3.symm, hc.symm⟩
    obtain ⟨s1, _, _, s4⟩ := hsame
    unfold Fact.tail at s4
    rw [s1] at s4
    by_cases hk : f.kind = 1
    · rw [if_pos hk, if_pos hk] at s4
      have b1 := body_le (ok_one g1 (by rw [s1]; exact hk)) g2.1 g2.2
      have b2 := body_le (ok_one ho hk) hw.1 hw.2
      have t1 := txt_back (most := 10000) (t := Mf.body g.man) (q := []) (by omega) (by omega)
      have t2 := txt_back (most := 10000) (t := Mf.body f.man) (q := [y]) (by omega) (by omega)
      rw [List.append_nil, s4, List.append_assoc, t2] at t1
      injection t1 with t1
      injection t1 with t1 t1'
      cases t1'
    · rw [if_neg hk, if_neg hk] at s4
      cases s4
end Ft
