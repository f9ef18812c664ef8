/-
  What LeaseMeets keeps from tick to tick.
-/
import Derived.Test.YtegdopbiiddamaaSf
namespace Go.Proofs.Ytegdopbiiddamaa
open Go.RowKit Go.Great
set_option linter.unusedVariables false
set_option linter.unusedSimpArgs false
set_option maxRecDepth 20000
section
variable {B : Nat} {w0 w w' : World} {gs : List Nat} {g gC gR gA gB : Nat} {C : Array Value} {p : Dr.P} {cl : Nat → Int} {N : Nat} {VS : Nat → Array Value} {ac : Nat → Gt.A} {VA VB : Array Value} {a b : Ln.L}
/-- One block more is the walk's own, that is to come. -/
theorem Stm.cons (h : Stm B w0 w gs g gC gR gA gB C p cl N VS ac VA VB a b) {q : Nat} (hq : w.heap.size ≤ q) : Stm B w0 w (q :: gs) g gC gR gA gB C p cl N VS ac VA VB a b :=
  ⟨h.sto.more (fun b hb => List.mem_cons_of_mem _ hb) (fun b hb => (List.mem_cons.1 hb).elim (fun e => Or.inr (e ▸ hq)) Or.inl), h.ba, h.bb, h.la.weak (fun b hb hx hx' => (List.mem_cons.1 hx').elim (fun e => by omega) hx), h.lb.weak (fun b hb hx hx' => (List.mem_cons.1 hx').elim (fun e => by omega) hx), List.mem_cons_of_mem _ h.inA, List.mem_cons_of_mem _ h.inB, h.far⟩
/-- That block is written. -/
theorem Stm.put {q : Nat} (h : Stm B w0 w (q :: gs) g gC gR gA gB C p cl N VS ac VA VB a b) (hC : gC ∈ gs) (hR : gR ∈ gs) (hA : gA ∈ gs) (hBB : gB ∈ gs) (h1 : gB < q) (V : Array Value) : Stm B w0 (w.setRow q V) gs g gC gR gA gB C p cl N VS ac VA VB a b := by
  have hf := h.far
  have hf2 := h.sto.far
  have hz : (w.setRow q V).heap.size = w.heap.size := by simp [World.setRow]
  have ho : ∀ b, b ≠ q → (w.setRow q V).heap[b]? = w.heap[b]? := fun b hb => setRow_other _ _ _ _ hb
  have hs := h.sto.beside (q := q) List.mem_cons_self (by omega) hz ho (below_row (Below.refl B w) (by omega) _)
  have hne : ∀ b, b ∉ q :: gs → b ≠ q := fun b hb e => hb (e ▸ List.mem_cons_self)
  have hni : ∀ b, b ∉ q :: gs → b ∉ gs := fun b hb hx => hb (List.mem_cons_of_mem _ hx)
  exact ⟨⟨hs.below, hs.plan, hs.cc, hs.clock, hs.row, fun i hi => (hs.acc i hi).weak (fun b _ hb => hni b hb), hC, hR, hs.far⟩, (ho gA (by omega)).trans h.ba, (ho gB (by omega)).trans h.bb, (h.la.keep (by omega) (fun b _ hx => ho b (hne b hx))).weak (fun b _ hb => hni b hb), (h.lb.keep (by omega) (fun b _ hx => ho b (hne b hx))).weak (fun b _ hb => hni b hb), hA, hBB, h.far⟩
end
/-- A new box for an acceptor that was answered, still to be written. -/
structure Bxd (B : Nat) (w0 w : World) (g gC gR gA gB : Nat) (C : Array Value) (p : Dr.P) (cl : Nat → Int) (N : Nat) (VS : Nat → Array Value) (ac : Nat → Gt.A) (VA VB : Array Value) (a b : Ln.L) (gb : Nat) (V : Array Value) (x : Gt.A) : Prop where
  box : Whole w gb 45 az
  stm : Stm B w0 w [gb, g, gC, gR, gA, gB] g gC gR gA gB C p cl N VS ac VA VB a b
  lt : gB < gb
  acc : AccS w (fun q => q ∉ [g, gC, gR, gA, gB] ∧ q ≠ gb) V x
/-- That box, written. -/
structure Bxw (B : Nat) (w0 w : World) (g gC gR gA gB : Nat) (C : Array Value) (p : Dr.P) (cl : Nat → Int) (N : Nat) (VS : Nat → Array Value) (ac : Nat → Gt.A) (VA VB : Array Value) (a b : Ln.L) (gb : Nat) (V : Array Value) (x : Gt.A) : Prop where
  box : Whole w gb 45 V
  stm : Stm B w0 w [g, gC, gR, gA, gB] g gC gR gA gB C p cl N VS ac VA VB a b
  lt : gB < gb
  acc : AccS w (fun q => q ∉ [g, gC, gR, gA, gB]) V x
section
variable {B : Nat} {w0 w w' : World} {g gC gR gA gB : Nat} {C : Array Value} {p : Dr.P} {cl : Nat → Int} {N : Nat} {VS : Nat → Array Value} {ac : Nat → Gt.A} {VA VB V : Array Value} {a b : Ln.L} {x : Gt.A} {gb q : Nat}
theorem Stm.boxA (h : Stm B w0 w [g, gC, gR, gA, gB] g gC gR gA gB C p cl N VS ac VA VB a b) (hA : AccS w (fun b => (b ∉ [g, gC, gR, gA, gB] ∧ b < q) ∨ q ≤ b) V x) (hgs : ∀ y ∈ [g, gC, gR, gA, gB], y < q) :
    Bxd B w0 (w.alloc (.cells az 45)) g gC gR gA gB C p cl N VS ac VA VB a b w.heap.size V x := by
  refine ⟨Whole.new w _ _, (h.cons (Nat.le_refl _)).on (below_alloc w _), h.bb.lt, AccS.on ?_ (below_alloc w _)⟩
  refine hA.weak fun b hb hx => ⟨?_, by omega⟩
  rcases hx with hx | hx
  · exact hx.1
  · exact fun hy => by have := hgs b hy; omega
theorem Stm.boxB (h : Stm B w0 w [g, gC, gR, gA, gB] g gC gR gA gB C p cl N VS ac VA VB a b) (hb : Below (w.alloc (.cells az 45)).heap.size (w.alloc (.cells az 45)) w') (hA : AccS w' (fun b => (b ∉ [g, gC, gR, gA, gB] ∧ b < w.heap.size) ∨ (w.alloc (.cells az 45)).heap.size ≤ b) V x) (hgs : ∀ y ∈ [g, gC, gR, gA, gB], y < w.heap.size) :
    Bxd B w0 w' g gC gR gA gB C p cl N VS ac VA VB a b w.heap.size V x := by
  have hw := Whole.new w 45 az
  refine ⟨hw.below hb hw.lt, ((h.cons (Nat.le_refl _)).on (below_alloc w _)).on hb, h.bb.lt, ?_⟩
  rw [size_alloc] at hA
  refine hA.weak fun b hb hx => ?_
  rcases hx with hx | hx
  · exact ⟨hx.1, by omega⟩
  · exact ⟨fun hy => by have := hgs b hy; omega, by omega⟩
theorem Bxd.put (h : Bxd B w0 w g gC gR gA gB C p cl N VS ac VA VB a b gb V x) : Bxw B w0 (w.setRow gb V) g gC gR gA gB C p cl N VS ac VA VB a b gb V x :=
  ⟨h.box.row V, h.stm.put (by simp) (by simp) (by simp) (by simp) h.lt V, h.lt, (h.acc.keep (by simp [World.setRow]) (fun b _ hb => setRow_other _ _ _ _ hb.2)).weak (fun b _ hb => hb.1)⟩
/-- What the drawn region of an asking leans on. -/
theorem Stm.see (h : Stm B w0 w [g, gC, gR, gA, gB] g gC gR gA gB C p cl N VS ac VA VB a b) {m : Nat} (hm : m < N) (h9 : m < 9) {W : Array Value} (hW : VS m = W) {v : Int} (hv : cl m = v) : Whole w g 24 C ∧ w.rangeAt gR (m * 2) W.toList ∧ w.cell? ⟨gC, m, none⟩ = some (.int .i64 v) :=
  ⟨h.sto.plan, by rw [← hW]; exact h.sto.range hm, by rw [← hv]; exact h.sto.cell h9⟩
end
/-- The ticks that are told: clocks' values, whom each one asks when. -/
structure Tel where
  p : Dr.P
  N : Nat
  told : Nat → Nat → Int
  TA : Nat
  TB : Nat
  wA : Nat → Nat
  wB : Nat → Nat
def Tel.is (k : Tel) (fa : Bool) (l : Ln.L) (n T : Nat) : Prop := fa = true → l.slot = 0 ∧ l.nonce = 1 ∧ l.asked = Mt.ck k.p k.told n (T + 1)
/-- What is kept: c: how many ticks each clock has gone; uA, uB: before which ticks each was asked. -/
structure Big (B : Nat) (w0 w : World) (g gC gR gA gB : Nat) (C : Array Value) (k : Tel) (c uA uB : Nat → Nat) (LA LB : Nat) (fa fb : Bool) (cl : Nat → Int) (VS : Nat → Array Value) (ac : Nat → Gt.A) (VA VB : Array Value) (a b : Ln.L) : Prop where
  stm : Stm B w0 w [g, gC, gR, gA, gB] g gC gR gA gB C k.p cl k.N VS ac VA VB a b
  clk : ∀ n, n < k.N → cl n = Mt.ck k.p k.told n (c n)
  nod : ∀ n, n < k.N → Mt.Nod k.p k.told n (k.TA + k.wA n) (k.TB + k.wB n) (ac n) a.fr b.fr (uA n) (uB n)
  isA : k.is fa a 0 k.TA
  isB : k.is fb b 1 k.TB
  lenA : a.fr.length ≤ LA
  lenB : b.fr.length ≤ LB
def Bigs (B : Nat) (w0 w : World) (g gC gR gA gB : Nat) (C : Array Value) (k : Tel) (c uA uB : Nat → Nat) (LA LB : Nat) (fa fb : Bool) : Prop := ∃ cl VS ac VA VB a b, Big B w0 w g gC gR gA gB C k c uA uB LA LB fa fb cl VS ac VA VB a b
section
variable {B : Nat} {w0 w w' : World} {g gC gR gA gB : Nat} {C : Array Value} {k : Tel} {c uA uB : Nat → Nat} {LA LB : Nat} {fa fb : Bool} {cl : Nat → Int} {VS : Nat → Array Value} {ac : Nat → Gt.A} {VA VB : Array Value} {a b : Ln.L}
theorem Big.on (h : Big B w0 w g gC gR gA gB C k c uA uB LA LB fa fb cl VS ac VA VB a b) (hb : Below w.heap.size w w') : Big B w0 w' g gC gR gA gB C k c uA uB LA LB fa fb cl VS ac VA VB a b :=
  ⟨h.stm.on hb, h.clk, h.nod, h.isA, h.isB, h.lenA, h.lenB⟩
theorem Big.gs (h : Big B w0 w g gC gR gA gB C k c uA uB LA LB fa fb cl VS ac VA VB a b) : ∀ q ∈ [g, gC, gR, gA, gB], q < w.heap.size := by
  intro q hq
  have h1 := h.stm.sto.plan.lt
  have h2 := h.stm.sto.clock.lt
  have h3 := h.stm.sto.row.lt
  have h4 := h.stm.ba.lt
  have h5 := h.stm.bb.lt
  simp at hq
  omega
theorem Big.pl (h : Big B w0 w g gC gR gA gB C k c uA uB LA LB fa fb cl VS ac VA VB a b) : Pl w g C k.p := ⟨h.stm.sto.plan, h.stm.sto.cc.weak (fun _ _ _ => trivial)⟩
/-- A clock goes on by a tick. -/
theorem Big.tick (h : Big B w0 w g gC gR gA gB C k c uA uB LA LB fa fb cl VS ac VA VB a b) {n : Nat} (hn : n < k.N) {v : Int} (hv : v = cl n + k.p.gain (k.told (c n) n)) {c' : Nat → Nat} (hc : c' n = c n + 1) (ho : ∀ m, m ≠ n → c' m = c m) :
    Big B w0 (w.setCell ⟨gC, n, none⟩ (.int .i64 v)) g gC gR gA gB C k c' uA uB LA LB fa fb (Gt.upd cl n v) VS ac VA VB a b :=
  ⟨h.stm.setC n v, fun m hm => by
    by_cases e : m = n
    · subst e
      rw [Gt.upd_same, hv, hc, h.clk m hm]
      rfl
    · rw [Gt.upd_ne _ _ e, ho m e]
      exact h.clk m hm, h.nod, h.isA, h.isB, h.lenA, h.lenB⟩
theorem Big.tickN {n t : Nat} (h : Big B w0 w g gC gR gA gB C k (fun m => if m < n then t + 1 else t) uA uB LA LB fa fb cl VS ac VA VB a b) (hn : n < k.N) {v : Int} (hv : v = cl n + k.p.gain (k.told t n)) :
    Big B w0 (w.setCell ⟨gC, n, none⟩ (.int .i64 v)) g gC gR gA gB C k (fun m => if m < n + 1 then t + 1 else t) uA uB LA LB fa fb (Gt.upd cl n v) VS ac VA VB a b := by
  refine h.tick hn ?_ ?_ fun m hm => ?_
  · rw [if_neg (Nat.lt_irrefl n)]
    exact hv
  · rw [if_pos (Nat.lt_succ_self n), if_neg (Nat.lt_irrefl n)]
  · by_cases e : m < n
    · rw [if_pos e, if_pos (by omega)]
    · rw [if_neg e, if_neg (by omega)]
theorem Big.ticks (h : Big B w0 w g gC gR gA gB C k c uA uB LA LB fa fb cl VS ac VA VB a b) {c' uA' uB' : Nat → Nat} {LA' LB' : Nat} (hc : ∀ n, n < k.N → c' n = c n) (hA : ∀ n, n < k.N → uA n ≤ uA' n) (hB : ∀ n, n < k.N → uB n ≤ uB' n) (hLA : LA ≤ LA') (hLB : LB ≤ LB') :
    Big B w0 w g gC gR gA gB C k c' uA' uB' LA' LB' fa fb cl VS ac VA VB a b :=
  ⟨h.stm, fun n hn => by rw [hc n hn]; exact h.clk n hn, fun n hn => (h.nod n hn).more (hA n hn) (hB n hn), h.isA, h.isB, Nat.le_trans h.lenA hLA, Nat.le_trans h.lenB hLB⟩
/-- The first one asks at its tick. -/
theorem Big.begA (h : Big B w0 w g gC gR gA gB C k c uA uB LA LB fa fb cl VS ac VA VB a b) (hu : ∀ n, n < k.N → uA n ≤ k.TA) {V : Array Value} {now : Int} (hnow : now = Mt.ck k.p k.told 0 (k.TA + 1)) (hV : LseS w (fun b => b ∉ [g, gC, gR, gA, gB]) V ⟨0, 1, now, []⟩) :
    Big B w0 (w.setRow gA V) g gC gR gA gB C k c uA uB LA LB true fb cl VS ac V VB ⟨0, 1, now, []⟩ b :=
  ⟨h.stm.setA hV, h.clk, fun n hn => (h.nod n hn).other (fa' := []) (fb' := b.fr) ⟨(fun x => by cases x), fun x => by have := (h.nod n hn).a x; have := hu n hn; omega⟩ Iff.rfl, fun _ => ⟨rfl, rfl, hnow⟩, h.isB, Nat.zero_le _, h.lenB⟩
theorem Big.begB (h : Big B w0 w g gC gR gA gB C k c uA uB LA LB fa fb cl VS ac VA VB a b) (hu : ∀ n, n < k.N → uB n ≤ k.TB) {V : Array Value} {now : Int} (hnow : now = Mt.ck k.p k.told 1 (k.TB + 1)) (hV : LseS w (fun b => b ∉ [g, gC, gR, gA, gB]) V ⟨0, 1, now, []⟩) :
    Big B w0 (w.setRow gB V) g gC gR gA gB C k c uA uB LA LB fa true cl VS ac VA V a ⟨0, 1, now, []⟩ :=
  ⟨h.stm.setB hV, h.clk, fun n hn => (h.nod n hn).other (fa' := a.fr) (fb' := []) Iff.rfl ⟨(fun x => by cases x), fun x => by have := (h.nod n hn).b x; have := hu n hn; omega⟩, h.isA, fun _ => ⟨rfl, rfl, hnow⟩, h.lenA, Nat.zero_le _⟩
/-- An acceptor refuses. -/
theorem Big.same (h : Big B w0 w g gC gR gA gB C k c uA uB LA LB fa fb cl VS ac VA VB a b) {n : Nat} (hn : n < k.N) {V : Array Value} (hV : AccS w (fun b => b ∉ [g, gC, gR, gA, gB]) V (ac n)) :
    Big B w0 (w.setRow gR (splice (accRow VS k.N) (n * 2) V.toList).toArray) g gC gR gA gB C k c uA uB LA LB fa fb cl (updV VS n V) (fun m => if m = n then ac n else ac m) VA VB a b :=
  ⟨h.stm.setR hn hV, h.clk, fun m hm => by
    by_cases e : m = n
    · subst e; rw [if_pos rfl]; exact h.nod m hm
    · rw [if_neg e]; exact h.nod m hm, h.isA, h.isB, h.lenA, h.lenB⟩
/-- An acceptor grants to the first one, and that one knows. -/
theorem Big.grA (h : Big B w0 w g gC gR gA gB C k c uA uB LA LB true fb cl VS ac VA VB a b) (hok : k.p.ok) (hN : k.p.nodes = (k.N : Int)) {n : Nat} (hn : n < k.N) {V X : Array Value} {now : Int} (hnow : now = Mt.ck k.p k.told n (k.TA + k.wA n + 1)) (hu : uA n = k.TA + k.wA n) (huB : uB n ≤ k.TA + k.wA n + 1)
    (hg : Gt.grants k.p (ac n) 0 0 1 now) (hV : AccS w (fun b => b ∉ [g, gC, gR, gA, gB]) V (Gt.put (ac n) 0 ⟨0, 1, now⟩)) {w2 : World}
    (h2 : Stm B w0 w2 [g, gC, gR, gA, gB] g gC gR gA gB C k.p cl k.N (updV VS n V) (fun m => if m = n then Gt.put (ac n) 0 ⟨0, 1, now⟩ else ac m) X VB (Ln.grant k.p a (n : Int) 0 1) b) {uA' : Nat → Nat} (hA1 : uA' n = uA n + 1) (hA2 : ∀ m, m ≠ n → uA' m = uA m) :
    Big B w0 w2 g gC gR gA gB C k c uA' uB (LA + 1) LB true fb cl (updV VS n V) (fun m => if m = n then Gt.put (ac n) 0 ⟨0, 1, now⟩ else ac m) X VB (Ln.grant k.p a (n : Int) 0 1) b := by
  obtain ⟨q1, q2, q3⟩ := h.isA rfl
  obtain ⟨r1, r2, r3, r4, r5, r6⟩ := Mt.grant_in hok (l := a) (n := n) (by omega) q1 q2
  refine ⟨h2, h.clk, fun m hm => ?_, fun _ => ⟨r3, r4, by rw [r5]; exact q3⟩, h.isB, Nat.le_trans r6 (Nat.succ_le_succ h.lenA), h.lenB⟩
  by_cases e : m = n
  · subst e
    rw [if_pos rfl, hA1, hu, hnow]
    have := h.nod m hm
    rw [hu] at this
    rw [hnow] at hg
    exact this.askA hok huB r1 hg
  · rw [if_neg e, hA2 m e]
    exact (h.nod m hm).other (r2 _ (by omega)) Iff.rfl
theorem Big.grB (h : Big B w0 w g gC gR gA gB C k c uA uB LA LB fa true cl VS ac VA VB a b) (hok : k.p.ok) (hN : k.p.nodes = (k.N : Int)) {n : Nat} (hn : n < k.N) {V X : Array Value} {now : Int} (hnow : now = Mt.ck k.p k.told n (k.TB + k.wB n + 1)) (hu : uB n = k.TB + k.wB n) (huA : uA n ≤ k.TB + k.wB n + 1)
    (hg : Gt.grants k.p (ac n) 0 1 1 now) (hV : AccS w (fun b => b ∉ [g, gC, gR, gA, gB]) V (Gt.put (ac n) 0 ⟨1, 1, now⟩)) {w2 : World}
    (h2 : Stm B w0 w2 [g, gC, gR, gA, gB] g gC gR gA gB C k.p cl k.N (updV VS n V) (fun m => if m = n then Gt.put (ac n) 0 ⟨1, 1, now⟩ else ac m) VA X a (Ln.grant k.p b (n : Int) 0 1)) {uB' : Nat → Nat} (hB1 : uB' n = uB n + 1) (hB2 : ∀ m, m ≠ n → uB' m = uB m) :
    Big B w0 w2 g gC gR gA gB C k c uA uB' LA (LB + 1) fa true cl (updV VS n V) (fun m => if m = n then Gt.put (ac n) 0 ⟨1, 1, now⟩ else ac m) VA X a (Ln.grant k.p b (n : Int) 0 1) := by
  obtain ⟨q1, q2, q3⟩ := h.isB rfl
  obtain ⟨r1, r2, r3, r4, r5, r6⟩ := Mt.grant_in hok (l := b) (n := n) (by omega) q1 q2
  refine ⟨h2, h.clk, fun m hm => ?_, h.isA, fun _ => ⟨r3, r4, by rw [r5]; exact q3⟩, h.lenA, Nat.le_trans r6 (Nat.succ_le_succ h.lenB)⟩
  by_cases e : m = n
  · subst e
    rw [if_pos rfl, hB1, hu, hnow]
    have := h.nod m hm
    rw [hu] at this
    rw [hnow] at hg
    exact this.askB hok huA r1 hg
  · rw [if_neg e, hB2 m e]
    exact (h.nod m hm).other Iff.rfl (r2 _ (by omega))
/-- The step of a tick, of the first one. -/
theorem Big.stepA {m t : Nat} {x : Int} {a0 : Gt.A} (h : Big B w0 w g gC gR gA gB C k c (fun q => if q < m then t + 1 else t) (fun q => if q < m then t + 1 else t) LA LB true fb cl VS ac VA VB a b) (hok : k.p.ok) (hN : k.p.nodes = (k.N : Int)) (hm : m < k.N) (ht : t = k.TA + k.wA m)
    (hx : x = Mt.ck k.p k.told m (t + 1)) (ha : ac m = a0) (hg : Gt.grants k.p a0 0 0 1 x) {V X : Array Value} (hV : AccS w (fun b => b ∉ [g, gC, gR, gA, gB]) V (Gt.put a0 0 ⟨0, 1, x⟩)) {w2 : World}
    (h2 : Stm B w0 w2 [g, gC, gR, gA, gB] g gC gR gA gB C k.p cl k.N (updV VS m V) (fun q => if q = m then Gt.put a0 0 ⟨0, 1, x⟩ else ac q) X VB (Ln.grant k.p a (m : Int) 0 1) b) :
    Bigs B w0 w2 g gC gR gA gB C k c (fun q => if q < m + 1 then t + 1 else t) (fun q => if q < m then t + 1 else t) (LA + 1) LB true fb := by
  subst ha
  refine ⟨_, _, _, _, _, _, _, h.grA hok hN hm (by rw [← ht]; exact hx) ?_ ?_ hg hV h2 ?_ ?_⟩
  · rw [if_neg (Nat.lt_irrefl m)]; exact ht
  · rw [if_neg (Nat.lt_irrefl m)]; omega
  · rw [if_pos (Nat.lt_succ_self m), if_neg (Nat.lt_irrefl m)]
  · intro q hq
    by_cases e : q < m
    · rw [if_pos e, if_pos (by omega)]
    · rw [if_neg e, if_neg (by omega)]
/-- The step of a tick, of the other one. -/
theorem Big.stepB {m t : Nat} {x : Int} {a0 : Gt.A} (h : Big B w0 w g gC gR gA gB C k c (fun q => if q < m + 1 then t + 1 else t) (fun q => if q < m then t + 1 else t) LA LB fa true cl VS ac VA VB a b) (hok : k.p.ok) (hN : k.p.nodes = (k.N : Int)) (hm : m < k.N) (ht : t = k.TB + k.wB m)
    (hx : x = Mt.ck k.p k.told m (t + 1)) (ha : ac m = a0) (hg : Gt.grants k.p a0 0 1 1 x) {V X : Array Value} (hV : AccS w (fun b => b ∉ [g, gC, gR, gA, gB]) V (Gt.put a0 0 ⟨1, 1, x⟩)) {w2 : World}
    (h2 : Stm B w0 w2 [g, gC, gR, gA, gB] g gC gR gA gB C k.p cl k.N (updV VS m V) (fun q => if q = m then Gt.put a0 0 ⟨1, 1, x⟩ else ac q) VA X a (Ln.grant k.p b (m : Int) 0 1)) :
    Bigs B w0 w2 g gC gR gA gB C k c (fun q => if q < m + 1 then t + 1 else t) (fun q => if q < m + 1 then t + 1 else t) LA (LB + 1) fa true := by
  subst ha
  refine ⟨_, _, _, _, _, _, _, h.grB hok hN hm (by rw [← ht]; exact hx) ?_ ?_ hg hV h2 ?_ ?_⟩
  · rw [if_neg (Nat.lt_irrefl m)]; exact ht
  · rw [if_pos (Nat.lt_succ_self m)]; omega
  · rw [if_pos (Nat.lt_succ_self m), if_neg (Nat.lt_irrefl m)]
  · intro q hq
    by_cases e : q < m
    · rw [if_pos e, if_pos (by omega)]
    · rw [if_neg e, if_neg (by omega)]
/-- The step of a tick, refused. -/
theorem Big.keepA {m t : Nat} (h : Big B w0 w g gC gR gA gB C k c (fun q => if q < m then t + 1 else t) uB LA LB fa fb cl VS ac VA VB a b) : Bigs B w0 w g gC gR gA gB C k c (fun q => if q < m + 1 then t + 1 else t) uB (LA + 1) LB fa fb :=
  ⟨_, _, _, _, _, _, _, h.ticks (fun _ _ => rfl) (fun q _ => by split <;> split <;> omega) (fun _ _ => Nat.le_refl _) (Nat.le_succ _) (Nat.le_refl _)⟩
theorem Big.keepB {m t : Nat} (h : Big B w0 w g gC gR gA gB C k c uA (fun q => if q < m then t + 1 else t) LA LB fa fb cl VS ac VA VB a b) : Bigs B w0 w g gC gR gA gB C k c uA (fun q => if q < m + 1 then t + 1 else t) LA (LB + 1) fa fb :=
  ⟨_, _, _, _, _, _, _, h.ticks (fun _ _ => rfl) (fun _ _ => Nat.le_refl _) (fun q _ => by split <;> split <;> omega) (Nat.le_refl _) (Nat.le_succ _)⟩
/-- Two never hold one slot at the same tick. -/
theorem Big.no {t : Nat} (h : Big B w0 w g gC gR gA gB C k c (fun _ => t + 1) (fun _ => t + 1) LA LB true true cl VS ac VA VB a b) (hok : k.p.ok) (hN : k.p.nodes = (k.N : Int)) (hA : k.TA ≤ t) (hB : k.TB ≤ t) {x y : Int} (hx : x = Mt.ck k.p k.told 0 (t + 1)) (hy : y = Mt.ck k.p k.told 1 (t + 1)) :
    ¬ (Ln.held k.p a x = true ∧ Ln.held k.p b y = true) := by
  rintro ⟨h1, h2⟩
  rw [hx] at h1
  rw [hy] at h2
  exact Mt.meets hok hN hA hB h.nod rfl rfl (h.isA rfl).2.2 (h.isB rfl).2.2 h1 h2
end
end Go.Proofs.Ytegdopbiiddamaa
