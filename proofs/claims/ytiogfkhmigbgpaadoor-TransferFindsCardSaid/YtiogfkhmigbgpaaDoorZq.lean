/-
  The walk of Encode.
  The walk of the document's Encode.
  The walk of the document's Same, where both are the same manifest.
  The walks of chunksOf, and of the closure that it makes.
  The walk of Build.
  A manifest that came in.
-/
import Derived.Test.YtiogfkhmigbgpaaDoorZn
import Derived.Deep.Slices
import Derived.ChangeSlices
import Derived.ChangeOld
import Derived.ProofKit
import Derived.OpenShut
namespace Go.Proofs.YtiogfkhmigbgpaaDoor
set_option maxRecDepth 20000
set_option linter.unusedSimpArgs false
open Go.RowKit
namespace Co
theorem slice_to {a : Option Addr} {n c k : Nat} (h1 : k ≤ c) (w : World) : (Instr.slice 35 (.slice a n c) none (some (.int .i64 (k : Int))) none).run Tryd.prog w = .ok (.slice a k c) w := by
  have hb : (0 : Int) ≤ (k : Int) ∧ (k : Int) ≤ (c : Int) := by omega
  have e : (if c = 0 then a else Option.map (fun x => x.add (0 * 1)) a) = a := by
    split
    · rfl
    · cases a <;> simp [Addr.add]
  have hz : (sizeOf 5).run Tryd.prog w = .ok 1 w := by
    obtain ⟨i, h1, _, h2, _⟩ := info_parts u8_info
    simp [sizeOf, typeInfo, h1, h2]
  simp only [Instr.slice, Instr.sliceBounds, Instr.sliceBound, Sem.run_bind, Sem.run_pure, Result.andThen_ok, run_underlying Tryd.underlying35, asIntOf, if_pos hb, hz, Int.toNat_natCast, e, Nat.sub_zero]
def GotN (w : World) (o : Int × Nat) (e : Ending) (w' : World) : Prop := e = .returned (.tuple #[.int .i64 o.1, .int .i64 (o.2 : Int)]) ∧ Below w.heap.size w w'
theorem own_form {w : World} {base e size n : Nat} {v : Value} {xs : List Value} (h : w.ownsRow base e size v n xs) : ∃ q cap, v = .slice q n cap := by
  rcases h.2 with ⟨rfl, h0⟩ | ⟨g', cap, _, rfl, _⟩
  · exact ⟨_, _, by rw [h0]⟩
  · exact ⟨_, _, rfl⟩
end Co
/-- What Encode answers. -/
def Encd (w : World) (m : Mf.Man) (e : Ending) (w' : World) : Prop :=
  ((m.bad ∧ e = .returned (.tuple #[.slice none 0 0, .int .i64 50])) ∨
    (¬ m.bad ∧ ∃ a n c, e = .returned (.tuple #[.slice a n c, .int .i64 0]) ∧ Txt w' (w.heap.size ≤ ·) a n c (Mf.body m))) ∧ Below w.heap.size w w'
theorem good_in {m : Mf.Man} (h : ¬ m.bad) : 1 ≤ m.size ∧ m.size ≤ 65536 ∧ 1 ≤ m.chunk ∧ m.chunk ≤ 4096 ∧ m.ds.length ≤ 64 := by
  have hn : Mf.cnt m.size m.chunk ≠ 0 := fun e => h (Or.inl e)
  have hl : m.ds.length = Mf.cnt m.size m.chunk := Decidable.byContradiction fun e => h (Or.inr e)
  obtain ⟨h1, h2, h3, h4⟩ := Mf.cnt_in hn
  exact ⟨h1, h2, h3, h4, by rw [hl]; exact Mf.cnt_le _ _⟩
end Go.Proofs.YtiogfkhmigbgpaaDoor
namespace Go.Proofs.YtiogfkhmigbgpaaDoor
set_option maxRecDepth 20000
set_option linter.unusedSimpArgs false
open Go.RowKit
theorem txt_range {w : World} {S : Nat → Prop} {b o : Nat} {d : List Int} (hS : S b) (hlt : b < w.heap.size) (h : w.rangeAt b o (nums d)) (hd : Dig d) : Txt w S (some ⟨b, o, none⟩) 32 32 d :=
  ⟨hd.1, Nat.le_refl _, hd.2, Or.inr ⟨b, o, rfl, hS, hlt, fun k hk => h k _ (nums_get d k (by rw [hd.1]; exact hk))⟩⟩
theorem slice_32 (b o : Nat) (w : World) : (Instr.sliceAt 32 (.pointer (some ⟨b, o, none⟩)) none none none).run Tryd.prog w = .ok (.slice (some ⟨b, o, none⟩) 32 32) w := by
  simp [Instr.sliceAt, Instr.sureAddr, run_underlying und32, sz_u8, Instr.sliceBounds, Instr.sliceBound, Addr.add_lit]
theorem own_lt {w : World} {base e size n : Nat} {v : Value} {xs : List Value} (h : w.ownsRow base e size v n xs) : ∀ b, v.ownBlock = some b → b < w.heap.size := by
  intro b hb
  rcases h.2 with ⟨rfl, _⟩ | ⟨g, cap, cur, rfl, _, hg, _⟩
  · cases hb
  · injection hb with hb
    subst hb
    exact (Array.getElem?_eq_some_iff.1 hg).1
theorem own_ge {w : World} {base e size n : Nat} {v : Value} {xs : List Value} (h : w.ownsRow base e size v n xs) : ∀ b, v.ownBlock = some b → base ≤ b := by
  intro b hb
  rcases h.2 with ⟨rfl, _⟩ | ⟨g, cap, cur, rfl, hg, _⟩
  · cases hb
  · injection hb with hb
    subst hb
    exact hg
end Go.Proofs.YtiogfkhmigbgpaaDoor
namespace Go.Proofs.YtiogfkhmigbgpaaDoor
set_option maxRecDepth 20000
set_option linter.unusedSimpArgs false
open Go.RowKit
theorem wpList_load_midG {P : Program} {ops : Array Oper} {rest : List Oper} {op : Oper} {a : Act} {w : World} {Q : Exit → Act → World → Prop} (hgd : Region.wanted op (yielded ops a.tmps) = true) (ty : TypeId) (x : Operand) (ho : op.op = .load ty x)
    (b o : Nat) (hx : a.eval x = .pointer (some ⟨b, o, none⟩)) (cs : List Value) (d : TypeDesc) (hc : w.rangeAt b o cs)
    (hu : P.underlying ty = some d) (hd : d.isRow = true) (hi : (P.info? ty).map (·.size) = some cs.length)
    (h : wpList P ops Q rest (a.put op.dst (.agg cs.toArray)) w) : wpList P ops Q (op :: rest) a w :=
  wpList_step fun _ hK => by rw [if_pos hgd]; exact wp_load_mid ty x ho b o hx cs d hc hu hd hi (hK _ _ h)
end Go.Proofs.YtiogfkhmigbgpaaDoor
namespace Go.Proofs.YtiogfkhmigbgpaaDoor
set_option maxRecDepth 20000
set_option linter.unusedSimpArgs false
open Go.RowKit
theorem chunksOf_any (a : Option Addr) (n c : Nat) (ch : Int) (w : World) :
    Calls Tryd.prog 37 #[.slice a n c, .int .i64 ch] w fun e w' => e = .returned (.func (.func 44) #[] #[.pointer (some ⟨w.heap.size + 1, 0, none⟩), .pointer (some ⟨w.heap.size, 0, none⟩)]) ∧
      Whole w' (w.heap.size + 1) 35 #[.slice a n c] ∧ Whole w' w.heap.size 3 #[.int .i64 ch] ∧ Below w.heap.size w w' := by
  have hmf : ∀ (fn : Fn) (first cap : Array Value) (w : World), (Instr.makeFunc fn first cap).run Tryd.prog w = .ok (.func fn first cap) w := fun _ _ _ _ => rfl
  go_enter Tryd.func37, Tryd.ntmps37
  go_wp2
  go_ret
  have k := Whole.new (w.alloc (.cells #[.int .i64 ch] 3)) 35 #[.slice a n c]
  rw [size_alloc] at k
  exact ⟨rfl, k, (Whole.new w _ _).alloc _, below_two w _ _⟩
theorem next_any {w0 w : World} {S : Nat → Prop} {R C : Nat} {a : Option Addr} {n c : Nat} {l : List Int} {ch : Nat} (hR : Whole w R 35 #[.slice a n c]) (hC : Whole w C 3 #[.int .i64 (ch : Int)]) (ht : Txt w0 S a n c l) :
    Calls Tryd.prog 44 #[.pointer (some ⟨R, 0, none⟩), .pointer (some ⟨C, 0, none⟩)] w fun e w' => ∃ a2 n2 c2 a3 n3 c3, e = .returned (.slice a2 n2 c2) ∧ w' = w.setCell ⟨R, 0, none⟩ (.slice a3 n3 c3) ∧ Txt w0 S a2 n2 c2 (l.take ch) ∧ Txt w0 S a3 n3 c3 (l.drop ch) := by
  have hc : n ≤ c := ht.2.1
  have HLN := Lib.hid ht.1
  have HT := Lib.hid ht
  have hr0 : w.cell? ⟨R, 0, none⟩ = some (.slice a n c) := hR.cell 0
  have hc0 : w.cell? ⟨C, 0, none⟩ = some (.int .i64 (ch : Int)) := hC.cell 0
  have hf : w.frozen? ⟨R, 0, none⟩ = false := hR.frozen 0
  clear hR hC ht
  by_cases hlt : n < ch
  · have d1 : decide ((n : Int) < (ch : Int)) = true := decide_eq_true (by omega)
    have d2 : decide (n < ch) = true := decide_eq_true hlt
    have hm1 : min (ch : Int) (n : Int) = (n : Int) := by omega
    have hm2 : (if n < ch then (n : Int) else (ch : Int)) = (n : Int) := if_pos hlt
    have hm3 : (if (n : Int) < (ch : Int) then (n : Int) else (ch : Int)) = (n : Int) := if_pos (by omega)
    have hs1 := Co.slice_to (a := a) (n := n) (c := c) (k := n) hc
    have hs2 := slice_from (a := a) (m := n) (c := c) (j := n) (Nat.le_refl n)
    have H1 := Lib.hid (HT.out.take n (Nat.le_refl n))
    have H2 := Lib.hid (HT.out.drop n (Nat.le_refl n))
    obtain ⟨A, hA, HA⟩ : ∃ A, (∀ w, (Instr.slice 35 (.slice a n c) (some (.int .i64 (n : Int))) none none).run Tryd.prog w = .ok (.slice A (n - n) (c - n)) w) ∧ Hid (Txt w0 S A (n - n) (c - n) (l.drop n)) := ⟨_, hs2, H2⟩
    have HE : Hid (l.take ch = l.take n ∧ l.drop ch = l.drop n) := Lib.hid (by
      have := HLN.out
      rw [List.take_of_length_le (by omega), List.take_of_length_le (by omega), List.drop_of_length_le (by omega), List.drop_of_length_le (by omega)]; exact ⟨rfl, rfl⟩)
    clear hs2 H2
    go_enter Tryd.func44, Tryd.ntmps44
    go_wp2
    go_ret
    exact ⟨_, _, _, _, _, _, rfl, rfl, by rw [HE.out.1]; exact H1.out, by rw [HE.out.2]; have h := HA.out; rw [Nat.sub_self] at h; exact h⟩
  · have d1 : decide ((n : Int) < (ch : Int)) = false := decide_eq_false (by omega)
    have d2 : decide (n < ch) = false := decide_eq_false hlt
    have hm1 : min (ch : Int) (n : Int) = (ch : Int) := by omega
    have hm2 : (if n < ch then (n : Int) else (ch : Int)) = (ch : Int) := if_neg hlt
    have hm3 : (if (n : Int) < (ch : Int) then (n : Int) else (ch : Int)) = (ch : Int) := if_neg (by omega)
    have hs1 := Co.slice_to (a := a) (n := n) (c := c) (k := ch) (by omega)
    have hs2 := slice_from (a := a) (m := n) (c := c) (j := ch) (by omega)
    have H1 := Lib.hid (HT.out.take ch (by omega))
    have H2 := Lib.hid (HT.out.drop ch (by omega))
    obtain ⟨A, hA, HA⟩ : ∃ A, (∀ w, (Instr.slice 35 (.slice a n c) (some (.int .i64 (ch : Int))) none none).run Tryd.prog w = .ok (.slice A (n - ch) (c - ch)) w) ∧ Hid (Txt w0 S A (n - ch) (c - ch) (l.drop ch)) := ⟨_, hs2, H2⟩
    clear hs2 H2
    go_enter Tryd.func44, Tryd.ntmps44
    go_wp2
    go_ret
    exact ⟨_, _, _, _, _, _, rfl, rfl, H1.out, HA.out⟩
end Go.Proofs.YtiogfkhmigbgpaaDoor
namespace Mf
def bld (img : List Int) (c : Int) : Man := if cnt img.length c = 0 then zero else made img c
def berr (img : List Int) (c : Int) : Int := if cnt img.length c = 0 then 1 else 0
theorem ck_len (img : List Int) (c k : Nat) : (ck img c k).length = min c (img.length - k * c) := by simp [ck]
theorem ck_pos {img : List Int} {c k N : Nat} (hN : ((N : Int) - 1) * c < img.length) (hc : 1 ≤ c) (hk : k < N) : 0 < (ck img c k).length := by
  rw [ck_len]
  have h1 : (k : Int) * c ≤ ((N : Int) - 1) * c := Int.mul_le_mul_of_nonneg_right (by omega) (by omega)
  have h2 : ((k * c : Nat) : Int) = (k : Int) * c := by push_cast; rfl
  omega
theorem ck_none {img : List Int} {c N : Nat} (hN : (img.length : Int) ≤ (N : Int) * c) : (ck img c N).length = 0 := by
  rw [ck_len]
  have h2 : ((N * c : Nat) : Int) = (N : Int) * c := by push_cast; rfl
  omega
theorem ck_take (img : List Int) (c k : Nat) : (img.drop (k * c)).take c = ck img c k := rfl
theorem ck_drop (img : List Int) (c k : Nat) : (img.drop (k * c)).drop c = img.drop ((k + 1) * c) := by rw [List.drop_drop, Nat.add_mul, Nat.one_mul]
end Mf
namespace Go.Proofs.YtiogfkhmigbgpaaDoor
set_option maxRecDepth 20000
set_option linter.unusedSimpArgs false
open Go.RowKit
theorem built_szw32 (s c h0 h1 h2 h3 h4 h5 h6 h7 h8 h9 h10 h11 h12 h13 h14 h15 h16 h17 h18 h19 h20 h21 h22 h23 h24 h25 h26 h27 h28 h29 h30 h31 : Int) : Tryd.prog.built 34 [(0, .int .i64 s), (1, .int .i64 c), (3, .agg (nums [h0, h1, h2, h3, h4, h5, h6, h7, h8, h9, h10, h11, h12, h13, h14, h15, h16, h17, h18, h19, h20, h21, h22, h23, h24, h25, h26, h27, h28, h29, h30, h31]).toArray)] = some (mcs s c (.slice none 0 0) [h0, h1, h2, h3, h4, h5, h6, h7, h8, h9, h10, h11, h12, h13, h14, h15, h16, h17, h18, h19, h20, h21, h22, h23, h24, h25, h26, h27, h28, h29, h30, h31]).toArray := by kernel_rfl
theorem built_szw (s c : Int) (h : List Int) (hh : h.length = 32) : Tryd.prog.built 34 [(0, .int .i64 s), (1, .int .i64 c), (3, .agg (nums h).toArray)] = some (mcs s c (.slice none 0 0) h).toArray := by
  match h, hh with
  | [h0, h1, h2, h3, h4, h5, h6, h7, h8, h9, h10, h11, h12, h13, h14, h15, h16, h17, h18, h19, h20, h21, h22, h23, h24, h25, h26, h27, h28, h29, h30, h31], _ => exact built_szw32 s c h0 h1 h2 h3 h4 h5 h6 h7 h8 h9 h10 h11 h12 h13 h14 h15 h16 h17 h18 h19 h20 h21 h22 h23 h24 h25 h26 h27 h28 h29 h30 h31
theorem built_sz (s c : Int) : Tryd.prog.built 34 [(0, .int .i64 s), (1, .int .i64 c)] = some (mcs s c (.slice none 0 0) (zs 32)).toArray := by kernel_rfl
theorem built_nil : Tryd.prog.built 34 [] = some (mcs 0 0 (.slice none 0 0) (zs 32)).toArray := by kernel_rfl
theorem zeroM : #[Value.int IntKind.i64 0, Value.int IntKind.i64 0, Value.slice none 0 0, Value.int IntKind.u8 0, Value.int IntKind.u8 0, Value.int IntKind.u8 0, Value.int IntKind.u8 0, Value.int IntKind.u8 0, Value.int IntKind.u8 0, Value.int IntKind.u8 0, Value.int IntKind.u8 0, Value.int IntKind.u8 0, Value.int IntKind.u8 0, Value.int IntKind.u8 0, Value.int IntKind.u8 0, Value.int IntKind.u8 0, Value.int IntKind.u8 0, Value.int IntKind.u8 0, Value.int IntKind.u8 0, Value.int IntKind.u8 0, Value.int IntKind.u8 0, Value.int IntKind.u8 0, Value.int IntKind.u8 0, Value.int IntKind.u8 0, Value.int IntKind.u8 0, Value.int IntKind.u8 0, Value.int IntKind.u8 0, Value.int IntKind.u8 0, Value.int IntKind.u8 0, Value.int IntKind.u8 0, Value.int IntKind.u8 0, Value.int IntKind.u8 0, Value.int IntKind.u8 0, Value.int IntKind.u8 0, Value.int IntKind.u8 0] = (mcs 0 0 (.slice none 0 0) (zs 32)).toArray := rfl
/-- The zero manifest's cells. -/
def zm : Array Value := (mcs 0 0 (.slice none 0 0) (zs 32)).toArray
theorem zm_size : zm.size = 35 := rfl
theorem zm_mv (w : World) (S : Nat → Prop) : Mv w S (.agg zm) Mf.zero := ⟨none, 0, 0, rfl, Nat.le_refl _, Digs.nil _ _ _, ⟨rfl, byt_zeros 32⟩, ⟨by decide, by decide⟩, ⟨by decide, by decide⟩⟩
theorem results_cell_one {fn : Func} {p u : Tmp} {ty : TypeId} (h : fn.results = #[.cell p ty, .tmp u]) (tmps : Array Value) (P : Program) (w : World) (a : Addr) {v : Value} (ht : tmps.getD p undef = .pointer (some a)) (hv : (loadVar ty a).run P w = .ok v w) :
    (results fn tmps).run P w = .ok (.tuple #[v, tmps.getD u undef]) w := by
  rw [results_cell_tmp h, ht]
  simp [asAddr, hv]
theorem loadVar35 {w : World} {b : Nat} {t : TypeId} {cs : Array Value} (h : Whole w b t cs) (hs : cs.size = 35) : (loadVar 34 ⟨b, 0, none⟩).run Tryd.prog w = .ok (.agg cs) w :=
  run_loadVar_row w b t _ cs (0, 0) _ h Tryd.underlying34 rfl (by rw [hs]; exact info35)
/-- What Build answers. -/
def Bldd (w : World) (img : List Int) (c : Int) (e : Ending) (w' : World) : Prop :=
  (∃ v, e = .returned (.tuple #[v, .int .i64 (Mf.berr img c)]) ∧ Mv w' (w.heap.size ≤ ·) v (Mf.bld img c)) ∧ Below w.heap.size w w'
/-- What holds while an image's chunks are told: k of them are, the rest begins with the chunk j. -/
structure Bst (w : World) (Bo M R C : Nat) (img : List Int) (ch k j : Nat) (s : Value) (wr : World) : Prop where
  m : Whole wr M 34 (mcs img.length ch s (Sm.dig img)).toArray
  own : wr.ownsRow Bo 32 32 s k (nums (Mf.digsTo img ch k).flatten)
  r : ∃ a n c, Whole wr R 35 #[.slice a n c] ∧ Txt w (· < w.heap.size) a n c (img.drop (j * ch))
  c : Whole wr C 3 #[.int .i64 (ch : Int)]
  z : Whole wr w.heap.size 34 zm
  b : Below w.heap.size w wr
  hb : Bo ≤ wr.heap.size
  lt : w.heap.size < M ∧ M < R ∧ M < C ∧ R < Bo ∧ C < Bo ∧ R ≠ C
theorem Bst.below {w : World} {Bo M R C : Nat} {img : List Int} {ch k j : Nat} {s : Value} {wr w' : World} (h : Bst w Bo M R C img ch k j s wr) (hb : Below wr.heap.size wr w') : Bst w Bo M R C img ch k j s w' := by
  obtain ⟨a, n, c, h1, h2⟩ := h.r
  exact ⟨h.m.below hb h.m.lt, own_keep h.own (fun b hq => hb.block b (own_lt h.own b hq)), ⟨a, n, c, h1.below hb h1.lt, h2⟩, h.c.below hb h.c.lt, h.z.below hb h.z.lt, h.b.trans (hb.mono h.b.size), Nat.le_trans h.hb hb.size, h.lt⟩
/-- Behind the append, and the store of it. -/
theorem Bst.stored {w : World} {Bo M R C : Nat} {img : List Int} {ch k j : Nat} {s s' : Value} {wr w' : World} (h : Bst w Bo M R C img ch k j s wr) (hg : wr.grownBy w' s.ownBlock)
    (hown : w'.ownsRow Bo 32 32 s' (k + 1) (nums (Mf.digsTo img ch (k + 1)).flatten)) : Bst w Bo M R C img ch (k + 1) j s' (w'.setCell ⟨M, 2, none⟩ s') := by
  obtain ⟨l1, l2, l3, l4, l5, l6⟩ := h.lt
  have hge : ∀ b, s.ownBlock = some b → Bo ≤ b := own_ge h.own
  have far : ∀ q, q < Bo → some q ≠ s.ownBlock := fun q hq e => by have := hge q e.symm; omega
  have hge' : ∀ b, s'.ownBlock = some b → Bo ≤ b := own_ge hown
  obtain ⟨a, n, c, h1, h2⟩ := h.r
  refine ⟨?_, own_keep hown (fun b hq => Below.heap_setCell w' ⟨M, 2, none⟩ s' b (by have := hge' b hq; show b ≠ M; omega)), ⟨a, n, c, (h1.grown hg (far R l4)).far (by show R ≠ M; omega) _, h2⟩, (h.c.grown hg (far C l5)).far (by show C ≠ M; omega) _, (h.z.grown hg (far _ (by omega))).far (by show w.heap.size ≠ M; omega) _, ?_, ?_, h.lt⟩
  · have h3 := (h.m.grown hg (far M (by omega))).set 2 s'
    exact h3
  · exact (h.b.grown hg h.b.size (fun b hq => Nat.le_trans (by omega) (hge b hq))).setCell (by show w.heap.size ≤ M; omega) _
  · have := hg.size; simp; exact Nat.le_trans h.hb this
theorem Bst.next {w : World} {Bo M R C : Nat} {img : List Int} {ch k j : Nat} {s : Value} {wr : World} {a : Option Addr} {n c : Nat} (h : Bst w Bo M R C img ch k j s wr) (ht : Txt w (· < w.heap.size) a n c (img.drop ((j + 1) * ch))) : Bst w Bo M R C img ch k (j + 1) s (wr.setCell ⟨R, 0, none⟩ (.slice a n c)) := by
  obtain ⟨l1, l2, l3, l4, l5, l6⟩ := h.lt
  obtain ⟨a', n', c', h1, h2⟩ := h.r
  refine ⟨h.m.far (by show M ≠ R; omega) _, own_keep h.own (fun b hq => Below.heap_setCell wr ⟨R, 0, none⟩ _ b (by have := own_ge h.own b hq; show b ≠ R; omega)), ⟨a, n, c, h1.set 0 _, ht⟩, h.c.far (by show C ≠ R; omega) _, h.z.far (by show w.heap.size ≠ R; omega) _, h.b.setCell (by show w.heap.size ≤ R; omega) _, by simp; exact h.hb, h.lt⟩
def lenV : Value → Nat
  | .slice _ n _ => n
  | _ => 0
def lenAt (w : World) (R : Nat) : Nat := match w.cell? ⟨R, 0, none⟩ with
  | some v => lenV v
  | none => 0
theorem Bst.rest {w : World} {Bo M R C : Nat} {img : List Int} {ch k j : Nat} {s : Value} {wr : World} (h : Bst w Bo M R C img ch k j s wr) : lenAt wr R = (img.drop (j * ch)).length := by
  obtain ⟨a, n, c, h1, h2⟩ := h.r
  unfold lenAt
  rw [h1.cell 0]
  exact h2.1.symm
theorem take_drop_len (l : List Int) (k : Nat) : (l.take k).length + (l.drop k).length = l.length := by
  rw [List.length_take, List.length_drop]; omega
theorem bld_zero {img : List Int} {c : Int} (h : Mf.cnt img.length c = 0) : Mf.bld img c = Mf.zero ∧ Mf.berr img c = 1 := by
  unfold Mf.bld Mf.berr; rw [if_pos h, if_pos h]; exact ⟨rfl, rfl⟩
theorem bld_made {img : List Int} {c : Int} (h : Mf.cnt img.length c ≠ 0) : Mf.bld img c = Mf.made img c ∧ Mf.berr img c = 0 := by
  unfold Mf.bld Mf.berr; rw [if_neg h, if_neg h]; exact ⟨rfl, rfl⟩
set_option maxHeartbeats 2000000 in
theorem build_bad {w : World} {S : Nat → Prop} {a : Option Addr} {n c : Nat} {img : List Int} {ch : Int} (ht : Txt w S a n c img) (hch : In64 ch) (hn : n ≤ 800000) (hN : Mf.cnt img.length ch = 0) :
    Calls Tryd.prog 20 #[.slice a n c, .int .i64 ch] w (Bldd w img ch) := by
  have HBZ := Lib.hid (bld_zero hN)
  rw [ht.1] at hN
  have HN := Lib.hid hN
  have HCH := Lib.hid hch
  have hall := mcs_one (s := 0) (c := 0) (v := .slice none 0 0) (h := zs 32) rfl
  clear ht hch hN
  go_enter Tryd.func20, Tryd.ntmps20
  go_wp2_with (first
    | (go_at_call 35; refine (count_any _ _ _ ⟨by omega, by omega⟩ HCH.out).mono ?_; rintro e w1 ⟨rfl, rfl⟩; rw [HN.out])
    | ((with_reducible show wpList _ _ _ ((⟨_, Op.build 34 _, _, _, _, _⟩ : Oper) :: _) _ _); refine wpList_built rfl _ rfl _ rfl _ built_nil ?_)
    | ((with_reducible show wpList _ _ _ ((⟨_, Op.store 34 _ _, _, _, _, _⟩ : Oper) :: _) _ _); refine wpList_store_row rfl _ (.tmp 4) (.tmp 14) rfl w.heap.size zm rfl rfl 34 _ (Whole.new w _ _) (by rw [zm_size]; exact info35) (by rw [zm_size]; rfl) hall ?_))
  refine bodyPost_ret (results_cell_one rfl _ _ _ _ rfl (loadVar35 ((Whole.new w _ _).row zm) zm_size)) rfl ?_
  exact ⟨⟨_, by rw [HBZ.out.2]; rfl, by rw [HBZ.out.1]; exact zm_mv _ _⟩, below_row (below_alloc w _) (Nat.le_refl _) _⟩
set_option maxHeartbeats 4000000 in
theorem build_good {w : World} {S : Nat → Prop} {a : Option Addr} {n c : Nat} {img : List Int} {ch : Nat} (ht : Txt w S a n c img) (hn : n ≤ 800000) (hR : Roots w) (hN : Mf.cnt img.length ch ≠ 0) :
    Calls Tryd.prog 20 #[.slice a n c, .int .i64 (ch : Int)] w (Bldd w img ch) := by
  obtain rfl : img.length = n := ht.1
  have HBZ := Lib.hid (bld_made hN)
  obtain ⟨hs0, hs1, hc0, hc1⟩ := Mf.cnt_in hN
  have HMU := Lib.hid (Mf.cnt_mul hN)
  have hle := Mf.cnt_le img.length ch
  have HT := Lib.hid ht.old
  have HR := Lib.hid hR
  obtain ⟨N, hNe⟩ : ∃ N, Mf.cnt img.length ch = N := ⟨_, rfl⟩
  have HNE := Lib.hid hNe
  rw [hNe] at HMU hle hN
  have d0 : ((N : Int) == 0) = false := by simp; omega
  have hmone := mcs_one (s := (img.length : Int)) (c := (ch : Int)) (v := .slice none 0 0) (h := Sm.dig img) rfl
  have HMS := Lib.hid (msize (s := (img.length : Int)) (c := (ch : Int)) (v := .slice none 0 0) (dig_len img))
  have HBT := Lib.hid (built_szw (img.length : Int) (ch : Int) (Sm.dig img) (dig_len img))
  clear ht hR hNe hN
  go_enter Tryd.func20, Tryd.ntmps20
  go_wp2_with (first
    | (go_at_call 35; refine (count_any _ _ _ ⟨by omega, by omega⟩ ⟨by omega, by omega⟩).mono ?_; rintro e w1 ⟨rfl, rfl⟩; rw [HNE.out])
    | fail)
  rw [zeroM, show (mcs 0 0 (.slice none 0 0) (zs 32)).toArray = zm from rfl]
  have kz := (Whole.new w 34 zm).alloc (.cells #[.slice a img.length c] 35)
  have kp := Whole.new (w.alloc (.cells zm 34)) 35 #[.slice a img.length c]
  have hb2 := below_two w (.cells zm 34) (.cells #[.slice a img.length c] 35)
  rw [size_alloc] at kp
  have hp := parts_one (S := fun _ => True) kp trivial ((HT.out.below hb2 (fun b _ h => h)).weak (fun _ _ _ => trivial))
  have hlt2 := kp.lt
  refine (sum_any hp (HR.out.below hb2 HR.out.two) (by rw [flat_one]; omega) (by omega)).mono ?_
  rintro e w3 ⟨rfl, hb3⟩
  rw [flat_one]
  have H3 := Lib.hid (And.intro (kz.below hb3 kz.lt) (hb2.trans (hb3.mono (by omega))))
  have hlt3 : w.heap.size < w3.heap.size := H3.out.1.lt
  clear kz kp hb2 hp hlt2 hb3
  obtain ⟨ML, hML⟩ : ∃ ML, mcs (img.length : Int) (ch : Int) (.slice none 0 0) (Sm.dig img) = ML := ⟨_, rfl⟩
  rw [hML] at hmone HMS HBT
  have HM := Lib.hid hML
  clear hML
  have hMS := HMS.out
  go_wp2_with (first
    | ((with_reducible show wpList _ _ _ ((⟨_, Op.build 34 _, _, _, _, _⟩ : Oper) :: _) _ _); refine wpList_built rfl _ rfl _ rfl ML HBT.out ?_)
    | ((with_reducible show wpList _ _ _ ((⟨_, Op.store 34 _ _, _, _, _, _⟩ : Oper) :: _) _ _); refine wpList_store_row rfl _ (.tmp 6) (.tmp 21) rfl w3.heap.size ML.toArray rfl rfl 34 _ (Whole.new w3 _ _) (by rw [hMS]; exact info35) (by rw [hMS]; rfl) hmone ?_)
    | fail)
  rw [zeroM, show (mcs 0 0 (.slice none 0 0) (zs 32)).toArray = zm from rfl]
  have km4 : Whole ((w3.alloc (.cells zm 34)).setRow w3.heap.size ML.toArray) w3.heap.size 34 ML.toArray := put_row
  have kz4 : Whole ((w3.alloc (.cells zm 34)).setRow w3.heap.size ML.toArray) w.heap.size 34 zm := put_far H3.out.1
  have hb4 : Below w.heap.size w ((w3.alloc (.cells zm 34)).setRow w3.heap.size ML.toArray) := put_below H3.out.2 (by omega)
  have hs4 : ((w3.alloc (.cells zm 34)).setRow w3.heap.size ML.toArray).heap.size = w3.heap.size + 1 := put_size
  generalize (w3.alloc (.cells zm 34)).setRow w3.heap.size ML.toArray = w4 at *
  generalize w3.heap.size = M at *
  refine (chunksOf_any a img.length c ch w4).mono ?_
  rintro e w5 ⟨rfl, kr, kc, hb5⟩
  have HB0 : Hid (Bst w w5.heap.size M (w4.heap.size + 1) w4.heap.size img ch 0 0 (.slice none 0 0) w5) := Lib.hid
    ⟨by rw [HM.out]; exact km4.below hb5 km4.lt, World.ownsRow_nil _ _ _ _, ⟨a, img.length, c, kr, by rw [Nat.zero_mul, List.drop_zero]; exact HT.out⟩, kc, kz4.below hb5 kz4.lt, hb4.trans (hb5.mono hb4.size), Nat.le_refl _, by have := kr.lt; have := kc.lt; omega⟩
  clear km4 kz4 hb4 hb5 kr kc H3 hlt3 hmone HMS HBT hMS hs4
  have hR : w4.heap.size + 1 < w5.heap.size := HB0.out.lt.2.2.2.1
  generalize w4.heap.size + 1 = R at *
  generalize w4.heap.size = C at *
  generalize w5.heap.size = Bo at *
  go_wp2_with fail
  obtain ⟨a1, n1, c1, hr1, ht1⟩ := HB0.out.r
  refine (next_any hr1 HB0.out.c ht1).mono ?_
  rintro e w6 ⟨a2, n2, c2, a3, n3, c3, rfl, rfl, ht2, ht3⟩
  rw [Mf.ck_take] at ht2
  rw [Mf.ck_drop] at ht3
  have HB1 := Lib.hid (HB0.out.next ht3)
  have HT2 := Lib.hid ht2
  clear hr1 ht1 ht2 ht3 HB0
  generalize w5.setCell ⟨R, 0, none⟩ (.slice a3 n3 c3) = w6 at *
  clear hs0 d0 HM
  go_wp2
  go_loopw [8] (fun x wr => ∃ (k : Nat) (s : Value) (a2 : Option Addr) (n2 c2 : Nat), k ≤ N ∧ x = .slice a2 n2 c2 ∧ Hid (Txt w (· < w.heap.size) a2 n2 c2 (Mf.ck img ch k)) ∧ Hid (Bst w Bo M R C img ch k (k + 1) s wr)) (fun x wr => lenV x + lenAt wr R)
  case atStart => exact ⟨0, _, a2, n2, c2, Nat.zero_le _, rfl, HT2, HB1⟩
  case round =>
    clear HT2 HB1
    obtain ⟨k, s, a4, n4, c4, hk, rfl, HTX, HB⟩ := hrel
    have hch1 : 1 ≤ ch := by omega
    by_cases hlt : k < N
    · have hn4 : 0 < n4 := by rw [← HTX.out.1]; exact Mf.ck_pos HMU.out.1 hch1 hlt
      have hn4' : n4 ≤ 4096 := by rw [← HTX.out.1, Mf.ck_len]; omega
      have d1 : decide ((0 : Int) < (n4 : Int)) = true := decide_eq_true (by omega)
      have hre := HB.out.rest
      have HRE := Lib.hid hre
      obtain ⟨q, cap, rfl⟩ := Co.own_form HB.out.own
      have HB0 := Lib.hid (HB.out.below (w' := wr.drew) (Below.refl _ _).drew)
      have x0 : wr.drew.cell? ⟨M, 2, none⟩ = some (.slice q k cap) := HB0.out.m.cell 2
      clear HB hre
      go_wp2
      refine wp_region_held_drew (S := fun _ => True) (by kernel_rfl) trivial (fun hHeld => ?_)
      generalize wr.drew = v0 at *
      refine wpAnyH_take (i := 0) (v := .pointer (some ⟨M, 2, none⟩)) rfl (by kernel_rfl) (by kernel_rfl) (by kernel_rfl) (fun _ _ _ h => h) (Or.inl ⟨by rfl, (by intro w hSw; (try dsimp only at hSw); go_simp)⟩) (by assumption) ?_
      try simp only [Act.put, List.getElem_toArray, List.getElem_cons_zero, List.getElem_cons_succ, List.setIfInBounds_toArray, List.set_cons_zero, List.set_cons_succ]
      refine wpAnyH_take (i := 2) (v := .pointer (some ⟨M, 2, none⟩)) rfl (by kernel_rfl) (by kernel_rfl) (by kernel_rfl) (fun _ _ _ h => h) (Or.inl ⟨by rfl, (by intro w hSw; (try dsimp only at hSw); go_simp)⟩) (by assumption) ?_
      try simp only [Act.put, List.getElem_toArray, List.getElem_cons_zero, List.getElem_cons_succ, List.setIfInBounds_toArray, List.set_cons_zero, List.set_cons_succ]
      refine wpAnyH_take (i := 5) (v := .slice a4 n4 c4) rfl (by kernel_rfl) (by kernel_rfl) (by kernel_rfl) (fun _ _ _ h => h) (Or.inl ⟨by rfl, (by intro w hSw; (try dsimp only at hSw); go_simp)⟩) (by assumption) ?_
      try simp only [Act.put, List.getElem_toArray, List.getElem_cons_zero, List.getElem_cons_succ, List.setIfInBounds_toArray, List.set_cons_zero, List.set_cons_succ]
      refine wpAnyH_ready (rs := [1, 3]) (by kernel_rfl) (by simp) (AllReadyH.cons rfl (fun K hK => ?_) (AllReadyH.cons rfl (fun K hK => ?_) AllReadyH.nil))
      · skip
        try simp only [List.getElem_toArray, List.getElem_cons_zero, List.getElem_cons_succ]
        go_simp
        refine hK.out _ _ trivial (fun hHeld => ?_)
        clear hK K
        try simp only [Act.put, List.getElem_toArray, List.getElem_cons_zero, List.getElem_cons_succ, List.setIfInBounds_toArray, List.set_cons_zero, List.set_cons_succ]
        refine wpAnyH_ready (rs := [3]) (by kernel_rfl) (by simp) (AllReadyH.cons rfl (fun K hK => ?_) AllReadyH.nil)
        try simp only [List.getElem_toArray, List.getElem_cons_zero, List.getElem_cons_succ]
        go_simp
        refine hK.out _ _ trivial (fun hHeld => ?_)
        clear hK K
        try simp only [Act.put, List.getElem_toArray, List.getElem_cons_zero, List.getElem_cons_succ, List.setIfInBounds_toArray, List.set_cons_zero, List.set_cons_succ]
        refine wpAnyH_take (i := 4) (v := .int .i64 (k : Int)) rfl (by kernel_rfl) (by kernel_rfl) (by kernel_rfl) (fun _ _ _ h => h) (Or.inl ⟨by rfl, (by intro w hSw; (try dsimp only at hSw); go_simp)⟩) (by assumption) ?_
        try simp only [Act.put, List.getElem_toArray, List.getElem_cons_zero, List.getElem_cons_succ, List.setIfInBounds_toArray, List.set_cons_zero, List.set_cons_succ]
        refine wpAnyH_ready (rs := [6]) (by kernel_rfl) (by simp) (AllReadyH.cons rfl (fun K hK => ?_) AllReadyH.nil)
        try simp only [List.getElem_toArray, List.getElem_cons_zero, List.getElem_cons_succ]
        go_simp
        go_at_call 38
        refine (cdig_any (i := (k : Int)) (HTX.out.below HB0.out.b (fun b _ h => h)) (HR.out.below HB0.out.b HR.out.two) (by omega) (by omega) (by omega)).mono ?_
        rintro e v1 ⟨rfl, hb⟩
        have HB1 := Lib.hid (HB0.out.below hb)
        have x1 : v1.cell? ⟨M, 2, none⟩ = some (.slice q k cap) := HB1.out.m.cell 2
        clear hb
        go_wp2_with fail
        refine hK.out _ _ trivial (fun hHeld => ?_)
        clear hK K
        try simp only [Act.put, List.getElem_toArray, List.getElem_cons_zero, List.getElem_cons_succ, List.setIfInBounds_toArray, List.set_cons_zero, List.set_cons_succ]
        refine wpAnyH_ready (rs := [7]) (by kernel_rfl) (by simp) (AllReadyH.cons rfl (fun K hK => ?_) AllReadyH.nil)
        try simp only [List.getElem_toArray, List.getElem_cons_zero, List.getElem_cons_succ]
        refine if_wanted (by rfl) ?_
        refine wp_buildD 38 rfl _ (Mf.cdig_ok k (Mf.ck img ch k)).1 rfl ?_
        have HB2 := Lib.hid (HB1.out.below (below_alloc v1 (.cells (nums (Mf.cdig k (Mf.ck img ch k))).toArray 32)))
        have KD2 := Lib.hid (Whole.new v1 32 (nums (Mf.cdig k (Mf.ck img ch k))).toArray)
        have x2 : (v1.alloc (.cells (nums (Mf.cdig k (Mf.ck img ch k))).toArray 32)).cell? ⟨M, 2, none⟩ = some (.slice q k cap) := HB2.out.m.cell 2
        generalize v1.alloc (.cells (nums (Mf.cdig k (Mf.ck img ch k))).toArray 32) = v2 at *
        generalize v1.heap.size = D at *
        refine hK.out _ _ trivial (fun hHeld => ?_)
        clear hK K
        try simp only [Act.put, List.getElem_toArray, List.getElem_cons_zero, List.getElem_cons_succ, List.setIfInBounds_toArray, List.set_cons_zero, List.set_cons_succ]
        refine wpAnyH_ready (rs := [8]) (by kernel_rfl) (by simp) (AllReadyH.cons rfl (fun K hK => ?_) AllReadyH.nil)
        try simp only [List.getElem_toArray, List.getElem_cons_zero, List.getElem_cons_succ]
        refine if_wanted (by rfl) ?_
        refine wp_append_digs _ (.tmp 33) (.tmp 39) rfl Bo _ k _ rfl HB2.out.own (fun _ => True) (some ⟨D, 0, none⟩) 1 1 [Mf.cdig k (Mf.ck img ch k)] rfl (digs_one KD2.out trivial (Mf.cdig_ok _ _)) (by omega) (by omega) HB2.out.hb ?_
        intro s' v3 hown hg _
        rw [← nums_append, show (Mf.digsTo img ch k).flatten ++ [Mf.cdig k (Mf.ck img ch k)].flatten = (Mf.digsTo img ch (k + 1)).flatten by rw [Mf.digsTo_succ, List.flatten_append]] at hown
        have KM := Lib.hid (HB2.out.m.grown hg (fun e => by have h1 := own_ge HB2.out.own _ e.symm; have h2 := HB2.out.lt; omega))
        have x3 : v3.cell? ⟨M, 2, none⟩ = some (.slice q k cap) := KM.out.cell 2
        have f3 : v3.frozen? ⟨M, 2, none⟩ = false := KM.out.frozen 2
        obtain ⟨q', cap', rfl⟩ := Co.own_form hown
        have HS := Lib.hid (HB2.out.stored hg hown)
        clear hown hg
        refine hK.out _ _ trivial (fun hHeld => ?_)
        clear hK K
        try simp only [Act.put, List.getElem_toArray, List.getElem_cons_zero, List.getElem_cons_succ, List.setIfInBounds_toArray, List.set_cons_zero, List.set_cons_succ]
        refine wpAnyH_take (i := 9) (v := .pointer (some ⟨M, 2, none⟩)) rfl (by kernel_rfl) (by kernel_rfl) (by kernel_rfl) (fun _ _ _ h => h) (Or.inl ⟨by rfl, (by intro w hSw; (try dsimp only at hSw); go_simp)⟩) (by assumption) ?_
        try simp only [Act.put, List.getElem_toArray, List.getElem_cons_zero, List.getElem_cons_succ, List.setIfInBounds_toArray, List.set_cons_zero, List.set_cons_succ]
        refine wpAnyH_ready (rs := [10]) (by kernel_rfl) (by simp) (AllReadyH.cons rfl (fun K hK => ?_) AllReadyH.nil)
        try simp only [List.getElem_toArray, List.getElem_cons_zero, List.getElem_cons_succ]
        go_simp
        refine hK.out _ _ trivial (fun hHeld => ?_)
        clear hK K
        try simp only [Act.put, List.getElem_toArray, List.getElem_cons_zero, List.getElem_cons_succ, List.setIfInBounds_toArray, List.set_cons_zero, List.set_cons_succ]
        refine wpAnyH_done (by kernel_rfl) ?_ _
        generalize v3.setCell ⟨M, 2, none⟩ (.slice q' (k + 1) cap') = w7 at *
        clear x3 f3 KM
        go_wp2_with fail
        obtain ⟨a5, n5, c5, hr5, ht5⟩ := HS.out.r
        have hrl : lenAt w7 R = n5 := by rw [HS.out.rest]; exact ht5.1
        refine (next_any hr5 HS.out.c ht5).mono ?_
        rintro e w8 ⟨a6, n6, c6, a7, n7, c7, rfl, rfl, ht6, ht7⟩
        have hsum : n6 + n7 = n5 := by rw [← ht6.1, ← ht7.1, ← ht5.1]; exact take_drop_len _ _
        rw [Mf.ck_take] at ht6
        rw [Mf.ck_drop] at ht7
        have HN := Lib.hid (HS.out.next ht7)
        have HT6 := Lib.hid ht6
        have hnew : lenAt (w7.setCell ⟨R, 0, none⟩ (.slice a7 n7 c7)) R = n7 := by rw [HN.out.rest]; exact ht7.1
        have hold : lenAt wr R = n5 := by rw [HRE.out]; exact ht5.1
        clear hr5 ht5 ht6 ht7
        generalize w7.setCell ⟨R, 0, none⟩ (.slice a7 n7 c7) = w8 at *
        have HO := Lib.hid (show n6 + lenAt w8 R < n4 + lenAt wr R by omega)
        clear hrl hsum hnew hold
        go_wp2
        exact ⟨⟨k + 1, _, a6, n6, c6, by omega, rfl, HT6, HN⟩, HO.out⟩
      · skip
        try simp only [List.getElem_toArray, List.getElem_cons_zero, List.getElem_cons_succ]
        go_simp
        refine hK.out _ _ trivial (fun hHeld => ?_)
        clear hK K
        try simp only [Act.put, List.getElem_toArray, List.getElem_cons_zero, List.getElem_cons_succ, List.setIfInBounds_toArray, List.set_cons_zero, List.set_cons_succ]
        refine wpAnyH_take (i := 4) (v := .int .i64 (k : Int)) rfl (by kernel_rfl) (by kernel_rfl) (by kernel_rfl) (fun _ _ _ h => h) (Or.inl ⟨by rfl, (by intro w hSw; (try dsimp only at hSw); go_simp)⟩) (by assumption) ?_
        try simp only [Act.put, List.getElem_toArray, List.getElem_cons_zero, List.getElem_cons_succ, List.setIfInBounds_toArray, List.set_cons_zero, List.set_cons_succ]
        refine wpAnyH_ready (rs := [1, 6]) (by kernel_rfl) (by simp) (AllReadyH.cons rfl (fun K hK => ?_) (AllReadyH.cons rfl (fun K hK => ?_) AllReadyH.nil))
        · skip
          try simp only [List.getElem_toArray, List.getElem_cons_zero, List.getElem_cons_succ]
          go_simp
          refine hK.out _ _ trivial (fun hHeld => ?_)
          clear hK K
          try simp only [Act.put, List.getElem_toArray, List.getElem_cons_zero, List.getElem_cons_succ, List.setIfInBounds_toArray, List.set_cons_zero, List.set_cons_succ]
          refine wpAnyH_ready (rs := [6]) (by kernel_rfl) (by simp) (AllReadyH.cons rfl (fun K hK => ?_) AllReadyH.nil)
          try simp only [List.getElem_toArray, List.getElem_cons_zero, List.getElem_cons_succ]
          go_simp
          go_at_call 38
          refine (cdig_any (i := (k : Int)) (HTX.out.below HB0.out.b (fun b _ h => h)) (HR.out.below HB0.out.b HR.out.two) (by omega) (by omega) (by omega)).mono ?_
          rintro e v1 ⟨rfl, hb⟩
          have HB1 := Lib.hid (HB0.out.below hb)
          have x1 : v1.cell? ⟨M, 2, none⟩ = some (.slice q k cap) := HB1.out.m.cell 2
          clear hb
          go_wp2_with fail
          refine hK.out _ _ trivial (fun hHeld => ?_)
          clear hK K
          try simp only [Act.put, List.getElem_toArray, List.getElem_cons_zero, List.getElem_cons_succ, List.setIfInBounds_toArray, List.set_cons_zero, List.set_cons_succ]
          refine wpAnyH_ready (rs := [7]) (by kernel_rfl) (by simp) (AllReadyH.cons rfl (fun K hK => ?_) AllReadyH.nil)
          try simp only [List.getElem_toArray, List.getElem_cons_zero, List.getElem_cons_succ]
          refine if_wanted (by rfl) ?_
          refine wp_buildD 38 rfl _ (Mf.cdig_ok k (Mf.ck img ch k)).1 rfl ?_
          have HB2 := Lib.hid (HB1.out.below (below_alloc v1 (.cells (nums (Mf.cdig k (Mf.ck img ch k))).toArray 32)))
          have KD2 := Lib.hid (Whole.new v1 32 (nums (Mf.cdig k (Mf.ck img ch k))).toArray)
          have x2 : (v1.alloc (.cells (nums (Mf.cdig k (Mf.ck img ch k))).toArray 32)).cell? ⟨M, 2, none⟩ = some (.slice q k cap) := HB2.out.m.cell 2
          generalize v1.alloc (.cells (nums (Mf.cdig k (Mf.ck img ch k))).toArray 32) = v2 at *
          generalize v1.heap.size = D at *
          refine hK.out _ _ trivial (fun hHeld => ?_)
          clear hK K
          try simp only [Act.put, List.getElem_toArray, List.getElem_cons_zero, List.getElem_cons_succ, List.setIfInBounds_toArray, List.set_cons_zero, List.set_cons_succ]
          refine wpAnyH_ready (rs := [8]) (by kernel_rfl) (by simp) (AllReadyH.cons rfl (fun K hK => ?_) AllReadyH.nil)
          try simp only [List.getElem_toArray, List.getElem_cons_zero, List.getElem_cons_succ]
          refine if_wanted (by rfl) ?_
          refine wp_append_digs _ (.tmp 33) (.tmp 39) rfl Bo _ k _ rfl HB2.out.own (fun _ => True) (some ⟨D, 0, none⟩) 1 1 [Mf.cdig k (Mf.ck img ch k)] rfl (digs_one KD2.out trivial (Mf.cdig_ok _ _)) (by omega) (by omega) HB2.out.hb ?_
          intro s' v3 hown hg _
          rw [← nums_append, show (Mf.digsTo img ch k).flatten ++ [Mf.cdig k (Mf.ck img ch k)].flatten = (Mf.digsTo img ch (k + 1)).flatten by rw [Mf.digsTo_succ, List.flatten_append]] at hown
          have KM := Lib.hid (HB2.out.m.grown hg (fun e => by have h1 := own_ge HB2.out.own _ e.symm; have h2 := HB2.out.lt; omega))
          have x3 : v3.cell? ⟨M, 2, none⟩ = some (.slice q k cap) := KM.out.cell 2
          have f3 : v3.frozen? ⟨M, 2, none⟩ = false := KM.out.frozen 2
          obtain ⟨q', cap', rfl⟩ := Co.own_form hown
          have HS := Lib.hid (HB2.out.stored hg hown)
          clear hown hg
          refine hK.out _ _ trivial (fun hHeld => ?_)
          clear hK K
          try simp only [Act.put, List.getElem_toArray, List.getElem_cons_zero, List.getElem_cons_succ, List.setIfInBounds_toArray, List.set_cons_zero, List.set_cons_succ]
          refine wpAnyH_take (i := 9) (v := .pointer (some ⟨M, 2, none⟩)) rfl (by kernel_rfl) (by kernel_rfl) (by kernel_rfl) (fun _ _ _ h => h) (Or.inl ⟨by rfl, (by intro w hSw; (try dsimp only at hSw); go_simp)⟩) (by assumption) ?_
          try simp only [Act.put, List.getElem_toArray, List.getElem_cons_zero, List.getElem_cons_succ, List.setIfInBounds_toArray, List.set_cons_zero, List.set_cons_succ]
          refine wpAnyH_ready (rs := [10]) (by kernel_rfl) (by simp) (AllReadyH.cons rfl (fun K hK => ?_) AllReadyH.nil)
          try simp only [List.getElem_toArray, List.getElem_cons_zero, List.getElem_cons_succ]
          go_simp
          refine hK.out _ _ trivial (fun hHeld => ?_)
          clear hK K
          try simp only [Act.put, List.getElem_toArray, List.getElem_cons_zero, List.getElem_cons_succ, List.setIfInBounds_toArray, List.set_cons_zero, List.set_cons_succ]
          refine wpAnyH_done (by kernel_rfl) ?_ _
          generalize v3.setCell ⟨M, 2, none⟩ (.slice q' (k + 1) cap') = w7 at *
          clear x3 f3 KM
          go_wp2_with fail
          obtain ⟨a5, n5, c5, hr5, ht5⟩ := HS.out.r
          have hrl : lenAt w7 R = n5 := by rw [HS.out.rest]; exact ht5.1
          refine (next_any hr5 HS.out.c ht5).mono ?_
          rintro e w8 ⟨a6, n6, c6, a7, n7, c7, rfl, rfl, ht6, ht7⟩
          have hsum : n6 + n7 = n5 := by rw [← ht6.1, ← ht7.1, ← ht5.1]; exact take_drop_len _ _
          rw [Mf.ck_take] at ht6
          rw [Mf.ck_drop] at ht7
          have HN := Lib.hid (HS.out.next ht7)
          have HT6 := Lib.hid ht6
          have hnew : lenAt (w7.setCell ⟨R, 0, none⟩ (.slice a7 n7 c7)) R = n7 := by rw [HN.out.rest]; exact ht7.1
          have hold : lenAt wr R = n5 := by rw [HRE.out]; exact ht5.1
          clear hr5 ht5 ht6 ht7
          generalize w7.setCell ⟨R, 0, none⟩ (.slice a7 n7 c7) = w8 at *
          have HO := Lib.hid (show n6 + lenAt w8 R < n4 + lenAt wr R by omega)
          clear hrl hsum hnew hold
          go_wp2
          exact ⟨⟨k + 1, _, a6, n6, c6, by omega, rfl, HT6, HN⟩, HO.out⟩
        · skip
          try simp only [List.getElem_toArray, List.getElem_cons_zero, List.getElem_cons_succ]
          go_simp
          go_at_call 38
          refine (cdig_any (i := (k : Int)) (HTX.out.below HB0.out.b (fun b _ h => h)) (HR.out.below HB0.out.b HR.out.two) (by omega) (by omega) (by omega)).mono ?_
          rintro e v1 ⟨rfl, hb⟩
          have HB1 := Lib.hid (HB0.out.below hb)
          have x1 : v1.cell? ⟨M, 2, none⟩ = some (.slice q k cap) := HB1.out.m.cell 2
          clear hb
          go_wp2_with fail
          refine hK.out _ _ trivial (fun hHeld => ?_)
          clear hK K
          try simp only [Act.put, List.getElem_toArray, List.getElem_cons_zero, List.getElem_cons_succ, List.setIfInBounds_toArray, List.set_cons_zero, List.set_cons_succ]
          refine wpAnyH_ready (rs := [1, 7]) (by kernel_rfl) (by simp) (AllReadyH.cons rfl (fun K hK => ?_) (AllReadyH.cons rfl (fun K hK => ?_) AllReadyH.nil))
          · skip
            try simp only [List.getElem_toArray, List.getElem_cons_zero, List.getElem_cons_succ]
            go_simp
            refine hK.out _ _ trivial (fun hHeld => ?_)
            clear hK K
            try simp only [Act.put, List.getElem_toArray, List.getElem_cons_zero, List.getElem_cons_succ, List.setIfInBounds_toArray, List.set_cons_zero, List.set_cons_succ]
            refine wpAnyH_ready (rs := [7]) (by kernel_rfl) (by simp) (AllReadyH.cons rfl (fun K hK => ?_) AllReadyH.nil)
            try simp only [List.getElem_toArray, List.getElem_cons_zero, List.getElem_cons_succ]
            refine if_wanted (by rfl) ?_
            refine wp_buildD 38 rfl _ (Mf.cdig_ok k (Mf.ck img ch k)).1 rfl ?_
            have HB2 := Lib.hid (HB1.out.below (below_alloc v1 (.cells (nums (Mf.cdig k (Mf.ck img ch k))).toArray 32)))
            have KD2 := Lib.hid (Whole.new v1 32 (nums (Mf.cdig k (Mf.ck img ch k))).toArray)
            have x2 : (v1.alloc (.cells (nums (Mf.cdig k (Mf.ck img ch k))).toArray 32)).cell? ⟨M, 2, none⟩ = some (.slice q k cap) := HB2.out.m.cell 2
            generalize v1.alloc (.cells (nums (Mf.cdig k (Mf.ck img ch k))).toArray 32) = v2 at *
            generalize v1.heap.size = D at *
            refine hK.out _ _ trivial (fun hHeld => ?_)
            clear hK K
            try simp only [Act.put, List.getElem_toArray, List.getElem_cons_zero, List.getElem_cons_succ, List.setIfInBounds_toArray, List.set_cons_zero, List.set_cons_succ]
            refine wpAnyH_ready (rs := [8]) (by kernel_rfl) (by simp) (AllReadyH.cons rfl (fun K hK => ?_) AllReadyH.nil)
            try simp only [List.getElem_toArray, List.getElem_cons_zero, List.getElem_cons_succ]
            refine if_wanted (by rfl) ?_
            refine wp_append_digs _ (.tmp 33) (.tmp 39) rfl Bo _ k _ rfl HB2.out.own (fun _ => True) (some ⟨D, 0, none⟩) 1 1 [Mf.cdig k (Mf.ck img ch k)] rfl (digs_one KD2.out trivial (Mf.cdig_ok _ _)) (by omega) (by omega) HB2.out.hb ?_
            intro s' v3 hown hg _
            rw [← nums_append, show (Mf.digsTo img ch k).flatten ++ [Mf.cdig k (Mf.ck img ch k)].flatten = (Mf.digsTo img ch (k + 1)).flatten by rw [Mf.digsTo_succ, List.flatten_append]] at hown
            have KM := Lib.hid (HB2.out.m.grown hg (fun e => by have h1 := own_ge HB2.out.own _ e.symm; have h2 := HB2.out.lt; omega))
            have x3 : v3.cell? ⟨M, 2, none⟩ = some (.slice q k cap) := KM.out.cell 2
            have f3 : v3.frozen? ⟨M, 2, none⟩ = false := KM.out.frozen 2
            obtain ⟨q', cap', rfl⟩ := Co.own_form hown
            have HS := Lib.hid (HB2.out.stored hg hown)
            clear hown hg
            refine hK.out _ _ trivial (fun hHeld => ?_)
            clear hK K
            try simp only [Act.put, List.getElem_toArray, List.getElem_cons_zero, List.getElem_cons_succ, List.setIfInBounds_toArray, List.set_cons_zero, List.set_cons_succ]
            refine wpAnyH_take (i := 9) (v := .pointer (some ⟨M, 2, none⟩)) rfl (by kernel_rfl) (by kernel_rfl) (by kernel_rfl) (fun _ _ _ h => h) (Or.inl ⟨by rfl, (by intro w hSw; (try dsimp only at hSw); go_simp)⟩) (by assumption) ?_
            try simp only [Act.put, List.getElem_toArray, List.getElem_cons_zero, List.getElem_cons_succ, List.setIfInBounds_toArray, List.set_cons_zero, List.set_cons_succ]
            refine wpAnyH_ready (rs := [10]) (by kernel_rfl) (by simp) (AllReadyH.cons rfl (fun K hK => ?_) AllReadyH.nil)
            try simp only [List.getElem_toArray, List.getElem_cons_zero, List.getElem_cons_succ]
            go_simp
            refine hK.out _ _ trivial (fun hHeld => ?_)
            clear hK K
            try simp only [Act.put, List.getElem_toArray, List.getElem_cons_zero, List.getElem_cons_succ, List.setIfInBounds_toArray, List.set_cons_zero, List.set_cons_succ]
            refine wpAnyH_done (by kernel_rfl) ?_ _
            generalize v3.setCell ⟨M, 2, none⟩ (.slice q' (k + 1) cap') = w7 at *
            clear x3 f3 KM
            go_wp2_with fail
            obtain ⟨a5, n5, c5, hr5, ht5⟩ := HS.out.r
            have hrl : lenAt w7 R = n5 := by rw [HS.out.rest]; exact ht5.1
            refine (next_any hr5 HS.out.c ht5).mono ?_
            rintro e w8 ⟨a6, n6, c6, a7, n7, c7, rfl, rfl, ht6, ht7⟩
            have hsum : n6 + n7 = n5 := by rw [← ht6.1, ← ht7.1, ← ht5.1]; exact take_drop_len _ _
            rw [Mf.ck_take] at ht6
            rw [Mf.ck_drop] at ht7
            have HN := Lib.hid (HS.out.next ht7)
            have HT6 := Lib.hid ht6
            have hnew : lenAt (w7.setCell ⟨R, 0, none⟩ (.slice a7 n7 c7)) R = n7 := by rw [HN.out.rest]; exact ht7.1
            have hold : lenAt wr R = n5 := by rw [HRE.out]; exact ht5.1
            clear hr5 ht5 ht6 ht7
            generalize w7.setCell ⟨R, 0, none⟩ (.slice a7 n7 c7) = w8 at *
            have HO := Lib.hid (show n6 + lenAt w8 R < n4 + lenAt wr R by omega)
            clear hrl hsum hnew hold
            go_wp2
            exact ⟨⟨k + 1, _, a6, n6, c6, by omega, rfl, HT6, HN⟩, HO.out⟩
          · skip
            try simp only [List.getElem_toArray, List.getElem_cons_zero, List.getElem_cons_succ]
            refine if_wanted (by rfl) ?_
            refine wp_buildD 38 rfl _ (Mf.cdig_ok k (Mf.ck img ch k)).1 rfl ?_
            have HB2 := Lib.hid (HB1.out.below (below_alloc v1 (.cells (nums (Mf.cdig k (Mf.ck img ch k))).toArray 32)))
            have KD2 := Lib.hid (Whole.new v1 32 (nums (Mf.cdig k (Mf.ck img ch k))).toArray)
            have x2 : (v1.alloc (.cells (nums (Mf.cdig k (Mf.ck img ch k))).toArray 32)).cell? ⟨M, 2, none⟩ = some (.slice q k cap) := HB2.out.m.cell 2
            generalize v1.alloc (.cells (nums (Mf.cdig k (Mf.ck img ch k))).toArray 32) = v2 at *
            generalize v1.heap.size = D at *
            refine hK.out _ _ trivial (fun hHeld => ?_)
            clear hK K
            try simp only [Act.put, List.getElem_toArray, List.getElem_cons_zero, List.getElem_cons_succ, List.setIfInBounds_toArray, List.set_cons_zero, List.set_cons_succ]
            refine wpAnyH_ready (rs := [1]) (by kernel_rfl) (by simp) (AllReadyH.cons rfl (fun K hK => ?_) AllReadyH.nil)
            try simp only [List.getElem_toArray, List.getElem_cons_zero, List.getElem_cons_succ]
            go_simp
            refine hK.out _ _ trivial (fun hHeld => ?_)
            clear hK K
            try simp only [Act.put, List.getElem_toArray, List.getElem_cons_zero, List.getElem_cons_succ, List.setIfInBounds_toArray, List.set_cons_zero, List.set_cons_succ]
            refine wpAnyH_ready (rs := [8]) (by kernel_rfl) (by simp) (AllReadyH.cons rfl (fun K hK => ?_) AllReadyH.nil)
            try simp only [List.getElem_toArray, List.getElem_cons_zero, List.getElem_cons_succ]
            refine if_wanted (by rfl) ?_
            refine wp_append_digs _ (.tmp 33) (.tmp 39) rfl Bo _ k _ rfl HB2.out.own (fun _ => True) (some ⟨D, 0, none⟩) 1 1 [Mf.cdig k (Mf.ck img ch k)] rfl (digs_one KD2.out trivial (Mf.cdig_ok _ _)) (by omega) (by omega) HB2.out.hb ?_
            intro s' v3 hown hg _
            rw [← nums_append, show (Mf.digsTo img ch k).flatten ++ [Mf.cdig k (Mf.ck img ch k)].flatten = (Mf.digsTo img ch (k + 1)).flatten by rw [Mf.digsTo_succ, List.flatten_append]] at hown
            have KM := Lib.hid (HB2.out.m.grown hg (fun e => by have h1 := own_ge HB2.out.own _ e.symm; have h2 := HB2.out.lt; omega))
            have x3 : v3.cell? ⟨M, 2, none⟩ = some (.slice q k cap) := KM.out.cell 2
            have f3 : v3.frozen? ⟨M, 2, none⟩ = false := KM.out.frozen 2
            obtain ⟨q', cap', rfl⟩ := Co.own_form hown
            have HS := Lib.hid (HB2.out.stored hg hown)
            clear hown hg
            refine hK.out _ _ trivial (fun hHeld => ?_)
            clear hK K
            try simp only [Act.put, List.getElem_toArray, List.getElem_cons_zero, List.getElem_cons_succ, List.setIfInBounds_toArray, List.set_cons_zero, List.set_cons_succ]
            refine wpAnyH_take (i := 9) (v := .pointer (some ⟨M, 2, none⟩)) rfl (by kernel_rfl) (by kernel_rfl) (by kernel_rfl) (fun _ _ _ h => h) (Or.inl ⟨by rfl, (by intro w hSw; (try dsimp only at hSw); go_simp)⟩) (by assumption) ?_
            try simp only [Act.put, List.getElem_toArray, List.getElem_cons_zero, List.getElem_cons_succ, List.setIfInBounds_toArray, List.set_cons_zero, List.set_cons_succ]
            refine wpAnyH_ready (rs := [10]) (by kernel_rfl) (by simp) (AllReadyH.cons rfl (fun K hK => ?_) AllReadyH.nil)
            try simp only [List.getElem_toArray, List.getElem_cons_zero, List.getElem_cons_succ]
            go_simp
            refine hK.out _ _ trivial (fun hHeld => ?_)
            clear hK K
            try simp only [Act.put, List.getElem_toArray, List.getElem_cons_zero, List.getElem_cons_succ, List.setIfInBounds_toArray, List.set_cons_zero, List.set_cons_succ]
            refine wpAnyH_done (by kernel_rfl) ?_ _
            generalize v3.setCell ⟨M, 2, none⟩ (.slice q' (k + 1) cap') = w7 at *
            clear x3 f3 KM
            go_wp2_with fail
            obtain ⟨a5, n5, c5, hr5, ht5⟩ := HS.out.r
            have hrl : lenAt w7 R = n5 := by rw [HS.out.rest]; exact ht5.1
            refine (next_any hr5 HS.out.c ht5).mono ?_
            rintro e w8 ⟨a6, n6, c6, a7, n7, c7, rfl, rfl, ht6, ht7⟩
            have hsum : n6 + n7 = n5 := by rw [← ht6.1, ← ht7.1, ← ht5.1]; exact take_drop_len _ _
            rw [Mf.ck_take] at ht6
            rw [Mf.ck_drop] at ht7
            have HN := Lib.hid (HS.out.next ht7)
            have HT6 := Lib.hid ht6
            have hnew : lenAt (w7.setCell ⟨R, 0, none⟩ (.slice a7 n7 c7)) R = n7 := by rw [HN.out.rest]; exact ht7.1
            have hold : lenAt wr R = n5 := by rw [HRE.out]; exact ht5.1
            clear hr5 ht5 ht6 ht7
            generalize w7.setCell ⟨R, 0, none⟩ (.slice a7 n7 c7) = w8 at *
            have HO := Lib.hid (show n6 + lenAt w8 R < n4 + lenAt wr R by omega)
            clear hrl hsum hnew hold
            go_wp2
            exact ⟨⟨k + 1, _, a6, n6, c6, by omega, rfl, HT6, HN⟩, HO.out⟩
    · obtain rfl : k = N := by omega
      have hn4 : n4 = 0 := by rw [← HTX.out.1]; exact Mf.ck_none HMU.out.2
      subst hn4
      obtain ⟨q, cap, rfl⟩ := Co.own_form HB.out.own
      have hds : (Mf.digsTo img ch k).length = k := Mf.digsTo_len _ _ _
      obtain ⟨aq, cq, hq, hqc, hdg⟩ := own_digs HB.out.own (Mf.digsTo_ok _ _ _) hds
      injection hq with hq1 _ hq3
      subst hq1 hq3
      have HDG := Lib.hid (And.intro hdg hqc)
      clear hdg hqc hds
      have hPs := msize (s := (img.length : Int)) (c := (ch : Int)) (v := .slice q k cap) (dig_len img)
      have hPa := mcs_one (s := (img.length : Int)) (c := (ch : Int)) (v := .slice q k cap) (h := Sm.dig img) rfl
      obtain ⟨P, hP⟩ : ∃ P, (mcs (img.length : Int) (ch : Int) (.slice q k cap) (Sm.dig img)).toArray = P := ⟨_, rfl⟩
      have KM := Lib.hid HB.out.m
      rw [hP] at hPs hPa KM
      have HP := Lib.hid hP
      clear hP
      have HZS := zm_size
      go_wp2_with (first
        | ((with_reducible show wpList _ _ _ ((⟨_, Op.load 34 _, _, _, _, _⟩ : Oper) :: _) _ _); refine wpList_load_row rfl _ (.tmp 6) rfl M rfl 34 P (0, 0) _ KM.out Tryd.underlying34 rfl (by rw [hPs]; exact info35) ?_)
        | ((with_reducible show wpList _ _ _ ((⟨_, Op.store 34 _ _, _, _, _, _⟩ : Oper) :: _) _ _); refine wpList_store_row rfl _ (.tmp 4) (.tmp 42) rfl w.heap.size P rfl rfl 34 _ HB.out.z (by rw [hPs]; exact info35) (by rw [HZS, hPs]) hPa ?_))
      refine bodyPost_ret (results_cell_one rfl _ _ _ _ rfl (loadVar35 (HB.out.z.row P) hPs)) rfl ?_
      refine ⟨⟨_, by rw [HBZ.out.2]; rfl, ?_⟩, below_row HB.out.b (Nat.le_refl _) _⟩
      rw [HBZ.out.1]
      have hg : ∀ b, Bo ≤ b → b ≠ w.heap.size := fun b hb => by have := HB.out.lt; omega
      refine ⟨q, k, cap, by rw [← HP.out]; rfl, HDG.out.2, ?_, dig_ok img, ⟨by show (-9223372036854775808 : Int) ≤ (img.length : Int); omega, by show (img.length : Int) ≤ 9223372036854775807; omega⟩, ⟨by show (-9223372036854775808 : Int) ≤ (ch : Int); omega, by show (ch : Int) ≤ 9223372036854775807; omega⟩⟩
      have h1 : (Mf.made img ch).ds = Mf.digsTo img ch k := by
        show Mf.digsTo img ((ch : Int)).toNat (Mf.cnt img.length ch) = _
        rw [HNE.out, Int.toNat_natCast]
      rw [h1]
      exact (HDG.out.1.keep (w' := wr.setRow w.heap.size P) (by simp [World.setRow]) (fun b _ hb => setRow_other wr w.heap.size b P (hg b hb))).weak (fun b _ hb => by have := HB.out.lt; show w.heap.size ≤ b; omega)
end Go.Proofs.YtiogfkhmigbgpaaDoor
namespace Go.Proofs.YtiogfkhmigbgpaaDoor
set_option maxRecDepth 20000
open Go.ChangeShapes Go.WideShapes Go.RowKit Go.Deep
section
variable {H : Type} {enc : TypeId × Value → H} {w : World}
theorem three (cs : List Value) (h : cs.length = 35) : ∃ c0 c1 c2 r, cs = c0 :: c1 :: c2 :: r ∧ r.length = 32 := by
  match cs, h with
  | c0 :: c1 :: c2 :: r, h => exact ⟨c0, c1, c2, r, rfl, by simpa using h⟩
theorem open_mcs {m : Nat} {cs : List Value} {x : DataW H × List MemPlace} (h : DataW.trod enc Tryd.prog w 0 (fun _ => true) true m 34 cs = some x) :
    ∃ mm : Mf.Man, Mv w (fun b => b < w.heap.size) (.agg cs.toArray) mm := by
  obtain ⟨xs, m', _, _, hcl, hxl, hf⟩ := DataW.trod_struct Tryd.underlying34 h
  have hcl' : cs.length = 35 := hcl.trans (by kernel_rfl)
  have hxl' : xs.length = 4 := hxl
  obtain ⟨c0, c1, c2, r, rfl, hr⟩ := three cs hcl'
  have k0 : Tryd.prog.cellsOf 3 = 1 := by kernel_rfl
  have k2 : Tryd.prog.cellsOf 31 = 1 := by kernel_rfl
  have k3 : Tryd.prog.cellsOf 32 = 32 := by kernel_rfl
  obtain ⟨y0, hy0⟩ := some_of hxl' (i := 0) (by omega)
  obtain ⟨y1, hy1⟩ := some_of hxl' (i := 1) (by omega)
  obtain ⟨y2, hy2⟩ := some_of hxl' (i := 2) (by omega)
  obtain ⟨y3, hy3⟩ := some_of hxl' (i := 3) (by omega)
  have f0 : DataW.trod enc Tryd.prog w 0 (fun _ => true) true m' 3 (((c0 :: c1 :: c2 :: r).drop 0).take (Tryd.prog.cellsOf 3)) = some y0 := (hf 0 _ rfl).trans hy0
  have f1 : DataW.trod enc Tryd.prog w 0 (fun _ => true) true m' 3 (((c0 :: c1 :: c2 :: r).drop 1).take (Tryd.prog.cellsOf 3)) = some y1 := (hf 1 _ rfl).trans hy1
  have f2 : DataW.trod enc Tryd.prog w 0 (fun _ => true) true m' 31 (((c0 :: c1 :: c2 :: r).drop 2).take (Tryd.prog.cellsOf 31)) = some y2 := (hf 2 _ rfl).trans hy2
  have f3 : DataW.trod enc Tryd.prog w 0 (fun _ => true) true m' 32 (((c0 :: c1 :: c2 :: r).drop 3).take (Tryd.prog.cellsOf 32)) = some y3 := (hf 3 _ rfl).trans hy3
  rw [k0] at f0 f1
  rw [k2] at f2
  rw [k3] at f3
  simp only [List.drop_succ_cons, List.drop_zero, List.take_succ_cons, List.take_zero] at f0 f1 f2 f3
  rw [List.take_of_length_le (by omega)] at f3
  obtain ⟨n0, e0, _, g0⟩ := DataW.trod_int Tryd.underlying3 f0
  obtain ⟨n1, e1, _, g1⟩ := DataW.trod_int Tryd.underlying3 f1
  obtain ⟨hh, hl32, e3⟩ := open_h32 hr f3
  obtain ⟨a, l, c, e2⟩ : ∃ a l c, c2 = .slice a l c := by
    rcases open_slice Tryd.underlying31 f2 with ⟨hcs, _⟩ | ⟨ad, l, c, _, _, _, _, hcs, _⟩
    · injection hcs with hcs _; exact ⟨_, _, _, hcs⟩
    · injection hcs with hcs _; exact ⟨_, _, _, hcs⟩
  subst e2
  obtain ⟨ds, hle, hdg⟩ := open_digs f2
  injection e0 with e0 _
  injection e1 with e1 _
  subst e0 e1 e3
  exact ⟨⟨n0, n1, ds, hh⟩, a, l, c, rfl, hle, hdg, hl32, i64_in g0, i64_in g1⟩
theorem open_man {base : Nat} {r : Reach} {v : Value} {d : DataW H} {ps : List MemPlace} (hv : Value.okWide Tryd.prog w r base 34 v) (h : DataW.Trod enc Tryd.prog w 0 (fun _ => true) true 34 v d ps) : ∃ m : Mf.Man, Mv w (fun b => b < w.heap.size) v m := by
  simp only [Value.okWide, Tryd.underlying34] at hv
  obtain ⟨cs, rfl, h2, _⟩ := hv
  obtain ⟨fuel, hf⟩ := h
  have h3 := open_mcs (cs := cs.toList) (by simpa [Value.cells] using hf)
  simpa using h3
end
end Go.Proofs.YtiogfkhmigbgpaaDoor
