/-
  The walk of Build.
  The walk of the document's Build.
-/
import Derived.Test.YtdjibhpjdhpcgaaDoorZo
import Derived.Laws.MakeOwn
import Derived.Laws.CopyOwn
namespace Mf
def bld (img : List Int) (c : Int) : Man := if cnt img.length c = 0 then zero else made img c
def berr (img : List Int) (c : Int) : Int := if cnt img.length c = 0 then 1 else 0
theorem ck_len (img : List Int) (c k : Nat) : (ck img c k).length = min c (img.length - k * c) := by simp [ck]
theorem ck_pos {img : List Int} {c k N : Nat} (hN : ((N : Int) - 1) * c < img.length) (hc : 1 ≤ c) (hk : k < N) : 0 < (ck img c k).length := by
  rw [ck_len]
  have h1 : (k : Int) * c ≤ ((N : Int) - 1) * c := Int.mul_le_mul_of_nonneg_right (by omega) (by omega)
  have h2 : ((k * c : Nat) : Int) = (k : Int) * c := by push_cast; rfl
  omega
theorem ck_none {img : List Int} {c N : Nat} (hN : (img.length : Int) ≤ (N : Int) * c) : (ck img c N).length = 0 := by
  rw [ck_len]
  have h2 : ((N * c : Nat) : Int) = (N : Int) * c := by push_cast; rfl
  omega
theorem ck_take (img : List Int) (c k : Nat) : (img.drop (k * c)).take c = ck img c k := rfl
theorem ck_drop (img : List Int) (c k : Nat) : (img.drop (k * c)).drop c = img.drop ((k + 1) * c) := by rw [List.drop_drop, Nat.add_mul, Nat.one_mul]
end Mf
namespace Go.Proofs.YtdjibhpjdhpcgaaDoor
set_option maxRecDepth 20000
set_option linter.unusedSimpArgs false
open Go.RowKit
theorem built_szw32 (s c h0 h1 h2 h3 h4 h5 h6 h7 h8 h9 h10 h11 h12 h13 h14 h15 h16 h17 h18 h19 h20 h21 h22 h23 h24 h25 h26 h27 h28 h29 h30 h31 : Int) : Tryd.prog.built 27 [(0, .int .i64 s), (1, .int .i64 c), (3, .agg (nums [h0, h1, h2, h3, h4, h5, h6, h7, h8, h9, h10, h11, h12, h13, h14, h15, h16, h17, h18, h19, h20, h21, h22, h23, h24, h25, h26, h27, h28, h29, h30, h31]).toArray)] = some (mcs s c (.slice none 0 0) [h0, h1, h2, h3, h4, h5, h6, h7, h8, h9, h10, h11, h12, h13, h14, h15, h16, h17, h18, h19, h20, h21, h22, h23, h24, h25, h26, h27, h28, h29, h30, h31]).toArray := by kernel_rfl
theorem built_szw (s c : Int) (h : List Int) (hh : h.length = 32) : Tryd.prog.built 27 [(0, .int .i64 s), (1, .int .i64 c), (3, .agg (nums h).toArray)] = some (mcs s c (.slice none 0 0) h).toArray := by
  match h, hh with
  | [h0, h1, h2, h3, h4, h5, h6, h7, h8, h9, h10, h11, h12, h13, h14, h15, h16, h17, h18, h19, h20, h21, h22, h23, h24, h25, h26, h27, h28, h29, h30, h31], _ => exact built_szw32 s c h0 h1 h2 h3 h4 h5 h6 h7 h8 h9 h10 h11 h12 h13 h14 h15 h16 h17 h18 h19 h20 h21 h22 h23 h24 h25 h26 h27 h28 h29 h30 h31
theorem built_sz (s c : Int) : Tryd.prog.built 27 [(0, .int .i64 s), (1, .int .i64 c)] = some (mcs s c (.slice none 0 0) (zs 32)).toArray := by kernel_rfl
theorem built_nil : Tryd.prog.built 27 [] = some (mcs 0 0 (.slice none 0 0) (zs 32)).toArray := by kernel_rfl
theorem zeroM : #[Value.int IntKind.i64 0, Value.int IntKind.i64 0, Value.slice none 0 0, Value.int IntKind.u8 0, Value.int IntKind.u8 0, Value.int IntKind.u8 0, Value.int IntKind.u8 0, Value.int IntKind.u8 0, Value.int IntKind.u8 0, Value.int IntKind.u8 0, Value.int IntKind.u8 0, Value.int IntKind.u8 0, Value.int IntKind.u8 0, Value.int IntKind.u8 0, Value.int IntKind.u8 0, Value.int IntKind.u8 0, Value.int IntKind.u8 0, Value.int IntKind.u8 0, Value.int IntKind.u8 0, Value.int IntKind.u8 0, Value.int IntKind.u8 0, Value.int IntKind.u8 0, Value.int IntKind.u8 0, Value.int IntKind.u8 0, Value.int IntKind.u8 0, Value.int IntKind.u8 0, Value.int IntKind.u8 0, Value.int IntKind.u8 0, Value.int IntKind.u8 0, Value.int IntKind.u8 0, Value.int IntKind.u8 0, Value.int IntKind.u8 0, Value.int IntKind.u8 0, Value.int IntKind.u8 0, Value.int IntKind.u8 0] = (mcs 0 0 (.slice none 0 0) (zs 32)).toArray := rfl
/-- The zero manifest's cells. -/
def zm : Array Value := (mcs 0 0 (.slice none 0 0) (zs 32)).toArray
theorem zm_size : zm.size = 35 := rfl
theorem zm_mv (w : World) (S : Nat → Prop) : Mv w S (.agg zm) Mf.zero := ⟨none, 0, 0, rfl, Nat.le_refl _, Digs.nil _ _ _, ⟨rfl, byt_zeros 32⟩, ⟨by decide, by decide⟩, ⟨by decide, by decide⟩⟩
theorem results_cell_one {fn : Func} {p u : Tmp} {ty : TypeId} (h : fn.results = #[.cell p ty, .tmp u]) (tmps : Array Value) (P : Program) (w : World) (a : Addr) {v : Value} (ht : tmps.getD p undef = .pointer (some a)) (hv : (loadVar ty a).run P w = .ok v w) :
    (results fn tmps).run P w = .ok (.tuple #[v, tmps.getD u undef]) w := by
  rw [results_cell_tmp h, ht]
  simp [asAddr, hv]
theorem loadVar35 {w : World} {b : Nat} {t : TypeId} {cs : Array Value} (h : Whole w b t cs) (hs : cs.size = 35) : (loadVar 27 ⟨b, 0, none⟩).run Tryd.prog w = .ok (.agg cs) w :=
  run_loadVar_row w b t _ cs (0, 0) _ h Tryd.underlying27 rfl (by rw [hs]; exact info35)
/-- What Build answers. -/
def Bldd (w : World) (img : List Int) (c : Int) (e : Ending) (w' : World) : Prop :=
  (∃ v, e = .returned (.tuple #[v, .int .i64 (Mf.berr img c)]) ∧ Mv w' (w.heap.size ≤ ·) v (Mf.bld img c)) ∧ Below w.heap.size w w'
/-- What holds while an image's chunks are told: k of them are, the rest begins with the chunk j. -/
structure Bst (w : World) (Bo M R C : Nat) (img : List Int) (ch k j : Nat) (s : Value) (wr : World) : Prop where
  m : Whole wr M 27 (mcs img.length ch s (Sm.dig img)).toArray
  own : wr.ownsRow Bo 25 32 s k (nums (Mf.digsTo img ch k).flatten)
  r : ∃ a n c, Whole wr R 23 #[.slice a n c] ∧ Txt w (· < w.heap.size) a n c (img.drop (j * ch))
  c : Whole wr C 3 #[.int .i64 (ch : Int)]
  z : Whole wr w.heap.size 27 zm
  b : Below w.heap.size w wr
  hb : Bo ≤ wr.heap.size
  lt : w.heap.size < M ∧ M < R ∧ M < C ∧ R < Bo ∧ C < Bo ∧ R ≠ C
theorem Bst.below {w : World} {Bo M R C : Nat} {img : List Int} {ch k j : Nat} {s : Value} {wr w' : World} (h : Bst w Bo M R C img ch k j s wr) (hb : Below wr.heap.size wr w') : Bst w Bo M R C img ch k j s w' := by
  obtain ⟨a, n, c, h1, h2⟩ := h.r
  exact ⟨h.m.below hb h.m.lt, own_keep h.own (fun b hq => hb.block b (own_lt h.own b hq)), ⟨a, n, c, h1.below hb h1.lt, h2⟩, h.c.below hb h.c.lt, h.z.below hb h.z.lt, h.b.trans (hb.mono h.b.size), Nat.le_trans h.hb hb.size, h.lt⟩
/-- Behind the append, and the store of it. -/
theorem Bst.stored {w : World} {Bo M R C : Nat} {img : List Int} {ch k j : Nat} {s s' : Value} {wr w' : World} (h : Bst w Bo M R C img ch k j s wr) (hg : wr.grownBy w' s.ownBlock)
    (hown : w'.ownsRow Bo 25 32 s' (k + 1) (nums (Mf.digsTo img ch (k + 1)).flatten)) : Bst w Bo M R C img ch (k + 1) j s' (w'.setCell ⟨M, 2, none⟩ s') := by
  obtain ⟨l1, l2, l3, l4, l5, l6⟩ := h.lt
  have hge : ∀ b, s.ownBlock = some b → Bo ≤ b := own_ge h.own
  have far : ∀ q, q < Bo → some q ≠ s.ownBlock := fun q hq e => by have := hge q e.symm; omega
  have hge' : ∀ b, s'.ownBlock = some b → Bo ≤ b := own_ge hown
  obtain ⟨a, n, c, h1, h2⟩ := h.r
  refine ⟨?_, own_keep hown (fun b hq => Below.heap_setCell w' ⟨M, 2, none⟩ s' b (by have := hge' b hq; show b ≠ M; omega)), ⟨a, n, c, (h1.grown hg (far R l4)).far (by show R ≠ M; omega) _, h2⟩, (h.c.grown hg (far C l5)).far (by show C ≠ M; omega) _, (h.z.grown hg (far _ (by omega))).far (by show w.heap.size ≠ M; omega) _, ?_, ?_, h.lt⟩
  · have h3 := (h.m.grown hg (far M (by omega))).set 2 s'
    exact h3
  · exact (h.b.grown hg h.b.size (fun b hq => Nat.le_trans (by omega) (hge b hq))).setCell (by show w.heap.size ≤ M; omega) _
  · have := hg.size; simp; exact Nat.le_trans h.hb this
theorem Bst.next {w : World} {Bo M R C : Nat} {img : List Int} {ch k j : Nat} {s : Value} {wr : World} {a : Option Addr} {n c : Nat} (h : Bst w Bo M R C img ch k j s wr) (ht : Txt w (· < w.heap.size) a n c (img.drop ((j + 1) * ch))) : Bst w Bo M R C img ch k (j + 1) s (wr.setCell ⟨R, 0, none⟩ (.slice a n c)) := by
  obtain ⟨l1, l2, l3, l4, l5, l6⟩ := h.lt
  obtain ⟨a', n', c', h1, h2⟩ := h.r
  refine ⟨h.m.far (by show M ≠ R; omega) _, own_keep h.own (fun b hq => Below.heap_setCell wr ⟨R, 0, none⟩ _ b (by have := own_ge h.own b hq; show b ≠ R; omega)), ⟨a, n, c, h1.set 0 _, ht⟩, h.c.far (by show C ≠ R; omega) _, h.z.far (by show w.heap.size ≠ R; omega) _, h.b.setCell (by show w.heap.size ≤ R; omega) _, by simp; exact h.hb, h.lt⟩
def lenV : Value → Nat
  | .slice _ n _ => n
  | _ => 0
def lenAt (w : World) (R : Nat) : Nat := match w.cell? ⟨R, 0, none⟩ with
  | some v => lenV v
  | none => 0
theorem Bst.rest {w : World} {Bo M R C : Nat} {img : List Int} {ch k j : Nat} {s : Value} {wr : World} (h : Bst w Bo M R C img ch k j s wr) : lenAt wr R = (img.drop (j * ch)).length := by
  obtain ⟨a, n, c, h1, h2⟩ := h.r
  unfold lenAt
  rw [h1.cell 0]
  exact h2.1.symm
theorem take_drop_len (l : List Int) (k : Nat) : (l.take k).length + (l.drop k).length = l.length := by
  rw [List.length_take, List.length_drop]; omega
theorem bld_zero {img : List Int} {c : Int} (h : Mf.cnt img.length c = 0) : Mf.bld img c = Mf.zero ∧ Mf.berr img c = 1 := by
  unfold Mf.bld Mf.berr; rw [if_pos h, if_pos h]; exact ⟨rfl, rfl⟩
theorem bld_made {img : List Int} {c : Int} (h : Mf.cnt img.length c ≠ 0) : Mf.bld img c = Mf.made img c ∧ Mf.berr img c = 0 := by
  unfold Mf.bld Mf.berr; rw [if_neg h, if_neg h]; exact ⟨rfl, rfl⟩
set_option maxHeartbeats 2000000 in
theorem build_bad {w : World} {S : Nat → Prop} {a : Option Addr} {n c : Nat} {img : List Int} {ch : Int} (ht : Txt w S a n c img) (hch : In64 ch) (hn : n ≤ 800000) (hN : Mf.cnt img.length ch = 0) :
    Calls Tryd.prog 13 #[.slice a n c, .int .i64 ch] w (Bldd w img ch) := by
  have HBZ := Lib.hid (bld_zero hN)
  rw [ht.1] at hN
  have HN := Lib.hid hN
  have HCH := Lib.hid hch
  have hall := mcs_one (s := 0) (c := 0) (v := .slice none 0 0) (h := zs 32) rfl
  clear ht hch hN
  go_enter Tryd.func13, Tryd.ntmps13
  go_wp2_with (first
    | (go_at_call 31; refine (count_any _ _ _ ⟨by omega, by omega⟩ HCH.out).mono ?_; rintro e w1 ⟨rfl, rfl⟩; rw [HN.out])
    | ((with_reducible show wpList _ _ _ ((⟨_, Op.build 27 _, _, _, _, _⟩ : Oper) :: _) _ _); refine wpList_built rfl _ rfl _ rfl _ built_nil ?_)
    | ((with_reducible show wpList _ _ _ ((⟨_, Op.store 27 _ _, _, _, _, _⟩ : Oper) :: _) _ _); refine wpList_store_row rfl _ (.tmp 4) (.tmp 14) rfl w.heap.size zm rfl rfl 27 _ (Whole.new w _ _) (by rw [zm_size]; exact info35) (by rw [zm_size]; rfl) hall ?_))
  refine bodyPost_ret (results_cell_one rfl _ _ _ _ rfl (loadVar35 ((Whole.new w _ _).row zm) zm_size)) rfl ?_
  exact ⟨⟨_, by rw [HBZ.out.2]; rfl, by rw [HBZ.out.1]; exact zm_mv _ _⟩, below_row (below_alloc w _) (Nat.le_refl _) _⟩
set_option maxHeartbeats 4000000 in
theorem build_good {w : World} {S : Nat → Prop} {a : Option Addr} {n c : Nat} {img : List Int} {ch : Nat} (ht : Txt w S a n c img) (hn : n ≤ 800000) (hR : Roots w) (hN : Mf.cnt img.length ch ≠ 0) :
    Calls Tryd.prog 13 #[.slice a n c, .int .i64 (ch : Int)] w (Bldd w img ch) := by
  obtain rfl : img.length = n := ht.1
  have HBZ := Lib.hid (bld_made hN)
  obtain ⟨hs0, hs1, hc0, hc1⟩ := Mf.cnt_in hN
  have HMU := Lib.hid (Mf.cnt_mul hN)
  have hle := Mf.cnt_le img.length ch
  have HT := Lib.hid ht.old
  have HR := Lib.hid hR
  obtain ⟨N, hNe⟩ : ∃ N, Mf.cnt img.length ch = N := ⟨_, rfl⟩
  have HNE := Lib.hid hNe
  rw [hNe] at HMU hle hN
  have d0 : ((N : Int) == 0) = false := by simp; omega
  have hmone := mcs_one (s := (img.length : Int)) (c := (ch : Int)) (v := .slice none 0 0) (h := Sm.dig img) rfl
  have HMS := Lib.hid (msize (s := (img.length : Int)) (c := (ch : Int)) (v := .slice none 0 0) (dig_len img))
  have HBT := Lib.hid (built_szw (img.length : Int) (ch : Int) (Sm.dig img) (dig_len img))
  clear ht hR hNe hN
  go_enter Tryd.func13, Tryd.ntmps13
  go_wp2_with (first
    | (go_at_call 31; refine (count_any _ _ _ ⟨by omega, by omega⟩ ⟨by omega, by omega⟩).mono ?_; rintro e w1 ⟨rfl, rfl⟩; rw [HNE.out])
    | fail)
  rw [zeroM, show (mcs 0 0 (.slice none 0 0) (zs 32)).toArray = zm from rfl]
  have kz := (Whole.new w 27 zm).alloc (.cells #[.slice a img.length c] 23)
  have kp := Whole.new (w.alloc (.cells zm 27)) 23 #[.slice a img.length c]
  have hb2 := below_two w (.cells zm 27) (.cells #[.slice a img.length c] 23)
  rw [size_alloc] at kp
  have hp := parts_one (S := fun _ => True) kp trivial ((HT.out.below hb2 (fun b _ h => h)).weak (fun _ _ _ => trivial))
  have hlt2 := kp.lt
  refine (sum_any hp (HR.out.below hb2 HR.out.two) (by rw [flat_one]; omega) (by omega)).mono ?_
  rintro e w3 ⟨rfl, hb3⟩
  rw [flat_one]
  have H3 := Lib.hid (And.intro (kz.below hb3 kz.lt) (hb2.trans (hb3.mono (by omega))))
  have hlt3 : w.heap.size < w3.heap.size := H3.out.1.lt
  clear kz kp hb2 hp hlt2 hb3
  obtain ⟨ML, hML⟩ : ∃ ML, mcs (img.length : Int) (ch : Int) (.slice none 0 0) (Sm.dig img) = ML := ⟨_, rfl⟩
  rw [hML] at hmone HMS HBT
  have HM := Lib.hid hML
  clear hML
  have hMS := HMS.out
  go_wp2_with (first
    | ((with_reducible show wpList _ _ _ ((⟨_, Op.build 27 _, _, _, _, _⟩ : Oper) :: _) _ _); refine wpList_built rfl _ rfl _ rfl ML HBT.out ?_)
    | ((with_reducible show wpList _ _ _ ((⟨_, Op.store 27 _ _, _, _, _, _⟩ : Oper) :: _) _ _); refine wpList_store_row rfl _ (.tmp 6) (.tmp 21) rfl w3.heap.size ML.toArray rfl rfl 27 _ (Whole.new w3 _ _) (by rw [hMS]; exact info35) (by rw [hMS]; rfl) hmone ?_)
    | fail)
  rw [zeroM, show (mcs 0 0 (.slice none 0 0) (zs 32)).toArray = zm from rfl]
  have km4 : Whole ((w3.alloc (.cells zm 27)).setRow w3.heap.size ML.toArray) w3.heap.size 27 ML.toArray := put_row
  have kz4 : Whole ((w3.alloc (.cells zm 27)).setRow w3.heap.size ML.toArray) w.heap.size 27 zm := put_far H3.out.1
  have hb4 : Below w.heap.size w ((w3.alloc (.cells zm 27)).setRow w3.heap.size ML.toArray) := put_below H3.out.2 (by omega)
  have hs4 : ((w3.alloc (.cells zm 27)).setRow w3.heap.size ML.toArray).heap.size = w3.heap.size + 1 := put_size
  generalize (w3.alloc (.cells zm 27)).setRow w3.heap.size ML.toArray = w4 at *
  generalize w3.heap.size = M at *
  refine (chunksOf_any a img.length c ch w4).mono ?_
  rintro e w5 ⟨rfl, kr, kc, hb5⟩
  have HB0 : Hid (Bst w w5.heap.size M (w4.heap.size + 1) w4.heap.size img ch 0 0 (.slice none 0 0) w5) := Lib.hid
    ⟨by rw [HM.out]; exact km4.below hb5 km4.lt, World.ownsRow_nil _ _ _ _, ⟨a, img.length, c, kr, by rw [Nat.zero_mul, List.drop_zero]; exact HT.out⟩, kc, kz4.below hb5 kz4.lt, hb4.trans (hb5.mono hb4.size), Nat.le_refl _, by have := kr.lt; have := kc.lt; omega⟩
  clear km4 kz4 hb4 hb5 kr kc H3 hlt3 hmone HMS HBT hMS hs4
  have hR : w4.heap.size + 1 < w5.heap.size := HB0.out.lt.2.2.2.1
  generalize w4.heap.size + 1 = R at *
  generalize w4.heap.size = C at *
  generalize w5.heap.size = Bo at *
  go_wp2_with fail
  obtain ⟨a1, n1, c1, hr1, ht1⟩ := HB0.out.r
  refine (next_any hr1 HB0.out.c ht1).mono ?_
  rintro e w6 ⟨a2, n2, c2, a3, n3, c3, rfl, rfl, ht2, ht3⟩
  rw [Mf.ck_take] at ht2
  rw [Mf.ck_drop] at ht3
  have HB1 := Lib.hid (HB0.out.next ht3)
  have HT2 := Lib.hid ht2
  clear hr1 ht1 ht2 ht3 HB0
  generalize w5.setCell ⟨R, 0, none⟩ (.slice a3 n3 c3) = w6 at *
  clear hs0 d0 HM
  go_wp2
  go_loopw [8] (fun x wr => ∃ (k : Nat) (s : Value) (a2 : Option Addr) (n2 c2 : Nat), k ≤ N ∧ x = .slice a2 n2 c2 ∧ Hid (Txt w (· < w.heap.size) a2 n2 c2 (Mf.ck img ch k)) ∧ Hid (Bst w Bo M R C img ch k (k + 1) s wr)) (fun x wr => lenV x + lenAt wr R)
  case atStart => exact ⟨0, _, a2, n2, c2, Nat.zero_le _, rfl, HT2, HB1⟩
  case round =>
    clear HT2 HB1
    obtain ⟨k, s, a4, n4, c4, hk, rfl, HTX, HB⟩ := hrel
    have hch1 : 1 ≤ ch := by omega
    by_cases hlt : k < N
    · have hn4 : 0 < n4 := by rw [← HTX.out.1]; exact Mf.ck_pos HMU.out.1 hch1 hlt
      have hn4' : n4 ≤ 4096 := by rw [← HTX.out.1, Mf.ck_len]; omega
      have d1 : decide ((0 : Int) < (n4 : Int)) = true := decide_eq_true (by omega)
      have hre := HB.out.rest
      have HRE := Lib.hid hre
      obtain ⟨q, cap, rfl⟩ := Co.own_form HB.out.own
      have HB0 := Lib.hid (HB.out.below (w' := wr.drew) (Below.refl _ _).drew)
      have x0 : wr.drew.cell? ⟨M, 2, none⟩ = some (.slice q k cap) := HB0.out.m.cell 2
      clear HB hre
      go_wp2
      refine wp_region_held_drew (S := fun _ => True) (by kernel_rfl) trivial (fun hHeld => ?_)
      generalize wr.drew = v0 at *
      refine wpAnyH_take (i := 0) (v := .pointer (some ⟨M, 2, none⟩)) rfl (by kernel_rfl) (by kernel_rfl) (by kernel_rfl) (fun _ _ _ h => h) (Or.inl ⟨by rfl, (by intro w hSw; (try dsimp only at hSw); go_simp)⟩) (by assumption) ?_
      try simp only [Act.put, List.getElem_toArray, List.getElem_cons_zero, List.getElem_cons_succ, List.setIfInBounds_toArray, List.set_cons_zero, List.set_cons_succ]
      refine wpAnyH_take (i := 2) (v := .pointer (some ⟨M, 2, none⟩)) rfl (by kernel_rfl) (by kernel_rfl) (by kernel_rfl) (fun _ _ _ h => h) (Or.inl ⟨by rfl, (by intro w hSw; (try dsimp only at hSw); go_simp)⟩) (by assumption) ?_
      try simp only [Act.put, List.getElem_toArray, List.getElem_cons_zero, List.getElem_cons_succ, List.setIfInBounds_toArray, List.set_cons_zero, List.set_cons_succ]
      refine wpAnyH_take (i := 5) (v := .slice a4 n4 c4) rfl (by kernel_rfl) (by kernel_rfl) (by kernel_rfl) (fun _ _ _ h => h) (Or.inl ⟨by rfl, (by intro w hSw; (try dsimp only at hSw); go_simp)⟩) (by assumption) ?_
      try simp only [Act.put, List.getElem_toArray, List.getElem_cons_zero, List.getElem_cons_succ, List.setIfInBounds_toArray, List.set_cons_zero, List.set_cons_succ]
      refine wpAnyH_ready (rs := [1, 3]) (by kernel_rfl) (by simp) (AllReadyH.cons rfl (fun K hK => ?_) (AllReadyH.cons rfl (fun K hK => ?_) AllReadyH.nil))
      · skip
        try simp only [List.getElem_toArray, List.getElem_cons_zero, List.getElem_cons_succ]
        go_simp
        refine hK.out _ _ trivial (fun hHeld => ?_)
        clear hK K
        try simp only [Act.put, List.getElem_toArray, List.getElem_cons_zero, List.getElem_cons_succ, List.setIfInBounds_toArray, List.set_cons_zero, List.set_cons_succ]
        refine wpAnyH_ready (rs := [3]) (by kernel_rfl) (by simp) (AllReadyH.cons rfl (fun K hK => ?_) AllReadyH.nil)
        try simp only [List.getElem_toArray, List.getElem_cons_zero, List.getElem_cons_succ]
        go_simp
        refine hK.out _ _ trivial (fun hHeld => ?_)
        clear hK K
        try simp only [Act.put, List.getElem_toArray, List.getElem_cons_zero, List.getElem_cons_succ, List.setIfInBounds_toArray, List.set_cons_zero, List.set_cons_succ]
        refine wpAnyH_take (i := 4) (v := .int .i64 (k : Int)) rfl (by kernel_rfl) (by kernel_rfl) (by kernel_rfl) (fun _ _ _ h => h) (Or.inl ⟨by rfl, (by intro w hSw; (try dsimp only at hSw); go_simp)⟩) (by assumption) ?_
        try simp only [Act.put, List.getElem_toArray, List.getElem_cons_zero, List.getElem_cons_succ, List.setIfInBounds_toArray, List.set_cons_zero, List.set_cons_succ]
        refine wpAnyH_ready (rs := [6]) (by kernel_rfl) (by simp) (AllReadyH.cons rfl (fun K hK => ?_) AllReadyH.nil)
        try simp only [List.getElem_toArray, List.getElem_cons_zero, List.getElem_cons_succ]
        go_simp
        go_at_call 34
        refine (cdig_any (i := (k : Int)) (HTX.out.below HB0.out.b (fun b _ h => h)) (HR.out.below HB0.out.b HR.out.two) (by omega) (by omega) (by omega)).mono ?_
        rintro e v1 ⟨rfl, hb⟩
        have HB1 := Lib.hid (HB0.out.below hb)
        have x1 : v1.cell? ⟨M, 2, none⟩ = some (.slice q k cap) := HB1.out.m.cell 2
        clear hb
        go_wp2_with fail
        refine hK.out _ _ trivial (fun hHeld => ?_)
        clear hK K
        try simp only [Act.put, List.getElem_toArray, List.getElem_cons_zero, List.getElem_cons_succ, List.setIfInBounds_toArray, List.set_cons_zero, List.set_cons_succ]
        refine wpAnyH_ready (rs := [7]) (by kernel_rfl) (by simp) (AllReadyH.cons rfl (fun K hK => ?_) AllReadyH.nil)
        try simp only [List.getElem_toArray, List.getElem_cons_zero, List.getElem_cons_succ]
        refine if_wanted (by rfl) ?_
        refine wp_buildD 38 rfl _ (Mf.cdig_ok k (Mf.ck img ch k)).1 rfl ?_
        have HB2 := Lib.hid (HB1.out.below (below_alloc v1 (.cells (nums (Mf.cdig k (Mf.ck img ch k))).toArray 25)))
        have KD2 := Lib.hid (Whole.new v1 25 (nums (Mf.cdig k (Mf.ck img ch k))).toArray)
        have x2 : (v1.alloc (.cells (nums (Mf.cdig k (Mf.ck img ch k))).toArray 25)).cell? ⟨M, 2, none⟩ = some (.slice q k cap) := HB2.out.m.cell 2
        generalize v1.alloc (.cells (nums (Mf.cdig k (Mf.ck img ch k))).toArray 25) = v2 at *
        generalize v1.heap.size = D at *
        refine hK.out _ _ trivial (fun hHeld => ?_)
        clear hK K
        try simp only [Act.put, List.getElem_toArray, List.getElem_cons_zero, List.getElem_cons_succ, List.setIfInBounds_toArray, List.set_cons_zero, List.set_cons_succ]
        refine wpAnyH_ready (rs := [8]) (by kernel_rfl) (by simp) (AllReadyH.cons rfl (fun K hK => ?_) AllReadyH.nil)
        try simp only [List.getElem_toArray, List.getElem_cons_zero, List.getElem_cons_succ]
        refine if_wanted (by rfl) ?_
        refine wp_append_digs _ (.tmp 33) (.tmp 39) rfl Bo _ k _ rfl HB2.out.own (fun _ => True) (some ⟨D, 0, none⟩) 1 1 [Mf.cdig k (Mf.ck img ch k)] rfl (digs_one KD2.out trivial (Mf.cdig_ok _ _)) (by omega) (by omega) HB2.out.hb ?_
        intro s' v3 hown hg _
        rw [← nums_append, show (Mf.digsTo img ch k).flatten ++ [Mf.cdig k (Mf.ck img ch k)].flatten = (Mf.digsTo img ch (k + 1)).flatten by rw [Mf.digsTo_succ, List.flatten_append]] at hown
        have KM := Lib.hid (HB2.out.m.grown hg (fun e => by have h1 := own_ge HB2.out.own _ e.symm; have h2 := HB2.out.lt; omega))
        have x3 : v3.cell? ⟨M, 2, none⟩ = some (.slice q k cap) := KM.out.cell 2
        have f3 : v3.frozen? ⟨M, 2, none⟩ = false := KM.out.frozen 2
        obtain ⟨q', cap', rfl⟩ := Co.own_form hown
        have HS := Lib.hid (HB2.out.stored hg hown)
        clear hown hg
        refine hK.out _ _ trivial (fun hHeld => ?_)
        clear hK K
        try simp only [Act.put, List.getElem_toArray, List.getElem_cons_zero, List.getElem_cons_succ, List.setIfInBounds_toArray, List.set_cons_zero, List.set_cons_succ]
        refine wpAnyH_take (i := 9) (v := .pointer (some ⟨M, 2, none⟩)) rfl (by kernel_rfl) (by kernel_rfl) (by kernel_rfl) (fun _ _ _ h => h) (Or.inl ⟨by rfl, (by intro w hSw; (try dsimp only at hSw); go_simp)⟩) (by assumption) ?_
        try simp only [Act.put, List.getElem_toArray, List.getElem_cons_zero, List.getElem_cons_succ, List.setIfInBounds_toArray, List.set_cons_zero, List.set_cons_succ]
        refine wpAnyH_ready (rs := [10]) (by kernel_rfl) (by simp) (AllReadyH.cons rfl (fun K hK => ?_) AllReadyH.nil)
        try simp only [List.getElem_toArray, List.getElem_cons_zero, List.getElem_cons_succ]
        go_simp
        refine hK.out _ _ trivial (fun hHeld => ?_)
        clear hK K
        try simp only [Act.put, List.getElem_toArray, List.getElem_cons_zero, List.getElem_cons_succ, List.setIfInBounds_toArray, List.set_cons_zero, List.set_cons_succ]
        refine wpAnyH_done (by kernel_rfl) ?_ _
        generalize v3.setCell ⟨M, 2, none⟩ (.slice q' (k + 1) cap') = w7 at *
        clear x3 f3 KM
        go_wp2_with fail
        obtain ⟨a5, n5, c5, hr5, ht5⟩ := HS.out.r
        have hrl : lenAt w7 R = n5 := by rw [HS.out.rest]; exact ht5.1
        refine (next_any hr5 HS.out.c ht5).mono ?_
        rintro e w8 ⟨a6, n6, c6, a7, n7, c7, rfl, rfl, ht6, ht7⟩
        have hsum : n6 + n7 = n5 := by rw [← ht6.1, ← ht7.1, ← ht5.1]; exact take_drop_len _ _
        rw [Mf.ck_take] at ht6
        rw [Mf.ck_drop] at ht7
        have HN := Lib.hid (HS.out.next ht7)
        have HT6 := Lib.hid ht6
        have hnew : lenAt (w7.setCell ⟨R, 0, none⟩ (.slice a7 n7 c7)) R = n7 := by rw [HN.out.rest]; exact ht7.1
        have hold : lenAt wr R = n5 := by rw [HRE.out]; exact ht5.1
        clear hr5 ht5 ht6 ht7
        generalize w7.setCell ⟨R, 0, none⟩ (.slice a7 n7 c7) = w8 at *
        have HO := Lib.hid (show n6 + lenAt w8 R < n4 + lenAt wr R by omega)
        clear hrl hsum hnew hold
        go_wp2
        exact ⟨⟨k + 1, _, a6, n6, c6, by omega, rfl, HT6, HN⟩, HO.out⟩
      · skip
        try simp only [List.getElem_toArray, List.getElem_cons_zero, List.getElem_cons_succ]
        go_simp
        refine hK.out _ _ trivial (fun hHeld => ?_)
        clear hK K
        try simp only [Act.put, List.getElem_toArray, List.getElem_cons_zero, List.getElem_cons_succ, List.setIfInBounds_toArray, List.set_cons_zero, List.set_cons_succ]
        refine wpAnyH_take (i := 4) (v := .int .i64 (k : Int)) rfl (by kernel_rfl) (by kernel_rfl) (by kernel_rfl) (fun _ _ _ h => h) (Or.inl ⟨by rfl, (by intro w hSw; (try dsimp only at hSw); go_simp)⟩) (by assumption) ?_
        try simp only [Act.put, List.getElem_toArray, List.getElem_cons_zero, List.getElem_cons_succ, List.setIfInBounds_toArray, List.set_cons_zero, List.set_cons_succ]
        refine wpAnyH_ready (rs := [1, 6]) (by kernel_rfl) (by simp) (AllReadyH.cons rfl (fun K hK => ?_) (AllReadyH.cons rfl (fun K hK => ?_) AllReadyH.nil))
        · skip
          try simp only [List.getElem_toArray, List.getElem_cons_zero, List.getElem_cons_succ]
          go_simp
          refine hK.out _ _ trivial (fun hHeld => ?_)
          clear hK K
          try simp only [Act.put, List.getElem_toArray, List.getElem_cons_zero, List.getElem_cons_succ, List.setIfInBounds_toArray, List.set_cons_zero, List.set_cons_succ]
          refine wpAnyH_ready (rs := [6]) (by kernel_rfl) (by simp) (AllReadyH.cons rfl (fun K hK => ?_) AllReadyH.nil)
          try simp only [List.getElem_toArray, List.getElem_cons_zero, List.getElem_cons_succ]
          go_simp
          go_at_call 34
          refine (cdig_any (i := (k : Int)) (HTX.out.below HB0.out.b (fun b _ h => h)) (HR.out.below HB0.out.b HR.out.two) (by omega) (by omega) (by omega)).mono ?_
          rintro e v1 ⟨rfl, hb⟩
          have HB1 := Lib.hid (HB0.out.below hb)
          have x1 : v1.cell? ⟨M, 2, none⟩ = some (.slice q k cap) := HB1.out.m.cell 2
          clear hb
          go_wp2_with fail
          refine hK.out _ _ trivial (fun hHeld => ?_)
          clear hK K
          try simp only [Act.put, List.getElem_toArray, List.getElem_cons_zero, List.getElem_cons_succ, List.setIfInBounds_toArray, List.set_cons_zero, List.set_cons_succ]
          refine wpAnyH_ready (rs := [7]) (by kernel_rfl) (by simp) (AllReadyH.cons rfl (fun K hK => ?_) AllReadyH.nil)
          try simp only [List.getElem_toArray, List.getElem_cons_zero, List.getElem_cons_succ]
          refine if_wanted (by rfl) ?_
          refine wp_buildD 38 rfl _ (Mf.cdig_ok k (Mf.ck img ch k)).1 rfl ?_
          have HB2 := Lib.hid (HB1.out.below (below_alloc v1 (.cells (nums (Mf.cdig k (Mf.ck img ch k))).toArray 25)))
          have KD2 := Lib.hid (Whole.new v1 25 (nums (Mf.cdig k (Mf.ck img ch k))).toArray)
          have x2 : (v1.alloc (.cells (nums (Mf.cdig k (Mf.ck img ch k))).toArray 25)).cell? ⟨M, 2, none⟩ = some (.slice q k cap) := HB2.out.m.cell 2
          generalize v1.alloc (.cells (nums (Mf.cdig k (Mf.ck img ch k))).toArray 25) = v2 at *
          generalize v1.heap.size = D at *
          refine hK.out _ _ trivial (fun hHeld => ?_)
          clear hK K
          try simp only [Act.put, List.getElem_toArray, List.getElem_cons_zero, List.getElem_cons_succ, List.setIfInBounds_toArray, List.set_cons_zero, List.set_cons_succ]
          refine wpAnyH_ready (rs := [8]) (by kernel_rfl) (by simp) (AllReadyH.cons rfl (fun K hK => ?_) AllReadyH.nil)
          try simp only [List.getElem_toArray, List.getElem_cons_zero, List.getElem_cons_succ]
          refine if_wanted (by rfl) ?_
          refine wp_append_digs _ (.tmp 33) (.tmp 39) rfl Bo _ k _ rfl HB2.out.own (fun _ => True) (some ⟨D, 0, none⟩) 1 1 [Mf.cdig k (Mf.ck img ch k)] rfl (digs_one KD2.out trivial (Mf.cdig_ok _ _)) (by omega) (by omega) HB2.out.hb ?_
          intro s' v3 hown hg _
          rw [← nums_append, show (Mf.digsTo img ch k).flatten ++ [Mf.cdig k (Mf.ck img ch k)].flatten = (Mf.digsTo img ch (k + 1)).flatten by rw [Mf.digsTo_succ, List.flatten_append]] at hown
          have KM := Lib.hid (HB2.out.m.grown hg (fun e => by have h1 := own_ge HB2.out.own _ e.symm; have h2 := HB2.out.lt; omega))
          have x3 : v3.cell? ⟨M, 2, none⟩ = some (.slice q k cap) := KM.out.cell 2
          have f3 : v3.frozen? ⟨M, 2, none⟩ = false := KM.out.frozen 2
          obtain ⟨q', cap', rfl⟩ := Co.own_form hown
          have HS := Lib.hid (HB2.out.stored hg hown)
          clear hown hg
          refine hK.out _ _ trivial (fun hHeld => ?_)
          clear hK K
          try simp only [Act.put, List.getElem_toArray, List.getElem_cons_zero, List.getElem_cons_succ, List.setIfInBounds_toArray, List.set_cons_zero, List.set_cons_succ]
          refine wpAnyH_take (i := 9) (v := .pointer (some ⟨M, 2, none⟩)) rfl (by kernel_rfl) (by kernel_rfl) (by kernel_rfl) (fun _ _ _ h => h) (Or.inl ⟨by rfl, (by intro w hSw; (try dsimp only at hSw); go_simp)⟩) (by assumption) ?_
          try simp only [Act.put, List.getElem_toArray, List.getElem_cons_zero, List.getElem_cons_succ, List.setIfInBounds_toArray, List.set_cons_zero, List.set_cons_succ]
          refine wpAnyH_ready (rs := [10]) (by kernel_rfl) (by simp) (AllReadyH.cons rfl (fun K hK => ?_) AllReadyH.nil)
          try simp only [List.getElem_toArray, List.getElem_cons_zero, List.getElem_cons_succ]
          go_simp
          refine hK.out _ _ trivial (fun hHeld => ?_)
          clear hK K
          try simp only [Act.put, List.getElem_toArray, List.getElem_cons_zero, List.getElem_cons_succ, List.setIfInBounds_toArray, List.set_cons_zero, List.set_cons_succ]
          refine wpAnyH_done (by kernel_rfl) ?_ _
          generalize v3.setCell ⟨M, 2, none⟩ (.slice q' (k + 1) cap') = w7 at *
          clear x3 f3 KM
          go_wp2_with fail
          obtain ⟨a5, n5, c5, hr5, ht5⟩ := HS.out.r
          have hrl : lenAt w7 R = n5 := by rw [HS.out.rest]; exact ht5.1
          refine (next_any hr5 HS.out.c ht5).mono ?_
          rintro e w8 ⟨a6, n6, c6, a7, n7, c7, rfl, rfl, ht6, ht7⟩
          have hsum : n6 + n7 = n5 := by rw [← ht6.1, ← ht7.1, ← ht5.1]; exact take_drop_len _ _
          rw [Mf.ck_take] at ht6
          rw [Mf.ck_drop] at ht7
          have HN := Lib.hid (HS.out.next ht7)
          have HT6 := Lib.hid ht6
          have hnew : lenAt (w7.setCell ⟨R, 0, none⟩ (.slice a7 n7 c7)) R = n7 := by rw [HN.out.rest]; exact ht7.1
          have hold : lenAt wr R = n5 := by rw [HRE.out]; exact ht5.1
          clear hr5 ht5 ht6 ht7
          generalize w7.setCell ⟨R, 0, none⟩ (.slice a7 n7 c7) = w8 at *
          have HO := Lib.hid (show n6 + lenAt w8 R < n4 + lenAt wr R by omega)
          clear hrl hsum hnew hold
          go_wp2
          exact ⟨⟨k + 1, _, a6, n6, c6, by omega, rfl, HT6, HN⟩, HO.out⟩
        · skip
          try simp only [List.getElem_toArray, List.getElem_cons_zero, List.getElem_cons_succ]
          go_simp
          go_at_call 34
          refine (cdig_any (i := (k : Int)) (HTX.out.below HB0.out.b (fun b _ h => h)) (HR.out.below HB0.out.b HR.out.two) (by omega) (by omega) (by omega)).mono ?_
          rintro e v1 ⟨rfl, hb⟩
          have HB1 := Lib.hid (HB0.out.below hb)
          have x1 : v1.cell? ⟨M, 2, none⟩ = some (.slice q k cap) := HB1.out.m.cell 2
          clear hb
          go_wp2_with fail
          refine hK.out _ _ trivial (fun hHeld => ?_)
          clear hK K
          try simp only [Act.put, List.getElem_toArray, List.getElem_cons_zero, List.getElem_cons_succ, List.setIfInBounds_toArray, List.set_cons_zero, List.set_cons_succ]
          refine wpAnyH_ready (rs := [1, 7]) (by kernel_rfl) (by simp) (AllReadyH.cons rfl (fun K hK => ?_) (AllReadyH.cons rfl (fun K hK => ?_) AllReadyH.nil))
          · skip
            try simp only [List.getElem_toArray, List.getElem_cons_zero, List.getElem_cons_succ]
            go_simp
            refine hK.out _ _ trivial (fun hHeld => ?_)
            clear hK K
            try simp only [Act.put, List.getElem_toArray, List.getElem_cons_zero, List.getElem_cons_succ, List.setIfInBounds_toArray, List.set_cons_zero, List.set_cons_succ]
            refine wpAnyH_ready (rs := [7]) (by kernel_rfl) (by simp) (AllReadyH.cons rfl (fun K hK => ?_) AllReadyH.nil)
            try simp only [List.getElem_toArray, List.getElem_cons_zero, List.getElem_cons_succ]
            refine if_wanted (by rfl) ?_
            refine wp_buildD 38 rfl _ (Mf.cdig_ok k (Mf.ck img ch k)).1 rfl ?_
            have HB2 := Lib.hid (HB1.out.below (below_alloc v1 (.cells (nums (Mf.cdig k (Mf.ck img ch k))).toArray 25)))
            have KD2 := Lib.hid (Whole.new v1 25 (nums (Mf.cdig k (Mf.ck img ch k))).toArray)
            have x2 : (v1.alloc (.cells (nums (Mf.cdig k (Mf.ck img ch k))).toArray 25)).cell? ⟨M, 2, none⟩ = some (.slice q k cap) := HB2.out.m.cell 2
            generalize v1.alloc (.cells (nums (Mf.cdig k (Mf.ck img ch k))).toArray 25) = v2 at *
            generalize v1.heap.size = D at *
            refine hK.out _ _ trivial (fun hHeld => ?_)
            clear hK K
            try simp only [Act.put, List.getElem_toArray, List.getElem_cons_zero, List.getElem_cons_succ, List.setIfInBounds_toArray, List.set_cons_zero, List.set_cons_succ]
            refine wpAnyH_ready (rs := [8]) (by kernel_rfl) (by simp) (AllReadyH.cons rfl (fun K hK => ?_) AllReadyH.nil)
            try simp only [List.getElem_toArray, List.getElem_cons_zero, List.getElem_cons_succ]
            refine if_wanted (by rfl) ?_
            refine wp_append_digs _ (.tmp 33) (.tmp 39) rfl Bo _ k _ rfl HB2.out.own (fun _ => True) (some ⟨D, 0, none⟩) 1 1 [Mf.cdig k (Mf.ck img ch k)] rfl (digs_one KD2.out trivial (Mf.cdig_ok _ _)) (by omega) (by omega) HB2.out.hb ?_
            intro s' v3 hown hg _
            rw [← nums_append, show (Mf.digsTo img ch k).flatten ++ [Mf.cdig k (Mf.ck img ch k)].flatten = (Mf.digsTo img ch (k + 1)).flatten by rw [Mf.digsTo_succ, List.flatten_append]] at hown
            have KM := Lib.hid (HB2.out.m.grown hg (fun e => by have h1 := own_ge HB2.out.own _ e.symm; have h2 := HB2.out.lt; omega))
            have x3 : v3.cell? ⟨M, 2, none⟩ = some (.slice q k cap) := KM.out.cell 2
            have f3 : v3.frozen? ⟨M, 2, none⟩ = false := KM.out.frozen 2
            obtain ⟨q', cap', rfl⟩ := Co.own_form hown
            have HS := Lib.hid (HB2.out.stored hg hown)
            clear hown hg
            refine hK.out _ _ trivial (fun hHeld => ?_)
            clear hK K
            try simp only [Act.put, List.getElem_toArray, List.getElem_cons_zero, List.getElem_cons_succ, List.setIfInBounds_toArray, List.set_cons_zero, List.set_cons_succ]
            refine wpAnyH_take (i := 9) (v := .pointer (some ⟨M, 2, none⟩)) rfl (by kernel_rfl) (by kernel_rfl) (by kernel_rfl) (fun _ _ _ h => h) (Or.inl ⟨by rfl, (by intro w hSw; (try dsimp only at hSw); go_simp)⟩) (by assumption) ?_
            try simp only [Act.put, List.getElem_toArray, List.getElem_cons_zero, List.getElem_cons_succ, List.setIfInBounds_toArray, List.set_cons_zero, List.set_cons_succ]
            refine wpAnyH_ready (rs := [10]) (by kernel_rfl) (by simp) (AllReadyH.cons rfl (fun K hK => ?_) AllReadyH.nil)
            try simp only [List.getElem_toArray, List.getElem_cons_zero, List.getElem_cons_succ]
            go_simp
            refine hK.out _ _ trivial (fun hHeld => ?_)
            clear hK K
            try simp only [Act.put, List.getElem_toArray, List.getElem_cons_zero, List.getElem_cons_succ, List.setIfInBounds_toArray, List.set_cons_zero, List.set_cons_succ]
            refine wpAnyH_done (by kernel_rfl) ?_ _
            generalize v3.setCell ⟨M, 2, none⟩ (.slice q' (k + 1) cap') = w7 at *
            clear x3 f3 KM
            go_wp2_with fail
            obtain ⟨a5, n5, c5, hr5, ht5⟩ := HS.out.r
            have hrl : lenAt w7 R = n5 := by rw [HS.out.rest]; exact ht5.1
            refine (next_any hr5 HS.out.c ht5).mono ?_
            rintro e w8 ⟨a6, n6, c6, a7, n7, c7, rfl, rfl, ht6, ht7⟩
            have hsum : n6 + n7 = n5 := by rw [← ht6.1, ← ht7.1, ← ht5.1]; exact take_drop_len _ _
            rw [Mf.ck_take] at ht6
            rw [Mf.ck_drop] at ht7
            have HN := Lib.hid (HS.out.next ht7)
            have HT6 := Lib.hid ht6
            have hnew : lenAt (w7.setCell ⟨R, 0, none⟩ (.slice a7 n7 c7)) R = n7 := by rw [HN.out.rest]; exact ht7.1
            have hold : lenAt wr R = n5 := by rw [HRE.out]; exact ht5.1
            clear hr5 ht5 ht6 ht7
            generalize w7.setCell ⟨R, 0, none⟩ (.slice a7 n7 c7) = w8 at *
            have HO := Lib.hid (show n6 + lenAt w8 R < n4 + lenAt wr R by omega)
            clear hrl hsum hnew hold
            go_wp2
            exact ⟨⟨k + 1, _, a6, n6, c6, by omega, rfl, HT6, HN⟩, HO.out⟩
          · skip
            try simp only [List.getElem_toArray, List.getElem_cons_zero, List.getElem_cons_succ]
            refine if_wanted (by rfl) ?_
            refine wp_buildD 38 rfl _ (Mf.cdig_ok k (Mf.ck img ch k)).1 rfl ?_
            have HB2 := Lib.hid (HB1.out.below (below_alloc v1 (.cells (nums (Mf.cdig k (Mf.ck img ch k))).toArray 25)))
            have KD2 := Lib.hid (Whole.new v1 25 (nums (Mf.cdig k (Mf.ck img ch k))).toArray)
            have x2 : (v1.alloc (.cells (nums (Mf.cdig k (Mf.ck img ch k))).toArray 25)).cell? ⟨M, 2, none⟩ = some (.slice q k cap) := HB2.out.m.cell 2
            generalize v1.alloc (.cells (nums (Mf.cdig k (Mf.ck img ch k))).toArray 25) = v2 at *
            generalize v1.heap.size = D at *
            refine hK.out _ _ trivial (fun hHeld => ?_)
            clear hK K
            try simp only [Act.put, List.getElem_toArray, List.getElem_cons_zero, List.getElem_cons_succ, List.setIfInBounds_toArray, List.set_cons_zero, List.set_cons_succ]
            refine wpAnyH_ready (rs := [1]) (by kernel_rfl) (by simp) (AllReadyH.cons rfl (fun K hK => ?_) AllReadyH.nil)
            try simp only [List.getElem_toArray, List.getElem_cons_zero, List.getElem_cons_succ]
            go_simp
            refine hK.out _ _ trivial (fun hHeld => ?_)
            clear hK K
            try simp only [Act.put, List.getElem_toArray, List.getElem_cons_zero, List.getElem_cons_succ, List.setIfInBounds_toArray, List.set_cons_zero, List.set_cons_succ]
            refine wpAnyH_ready (rs := [8]) (by kernel_rfl) (by simp) (AllReadyH.cons rfl (fun K hK => ?_) AllReadyH.nil)
            try simp only [List.getElem_toArray, List.getElem_cons_zero, List.getElem_cons_succ]
            refine if_wanted (by rfl) ?_
            refine wp_append_digs _ (.tmp 33) (.tmp 39) rfl Bo _ k _ rfl HB2.out.own (fun _ => True) (some ⟨D, 0, none⟩) 1 1 [Mf.cdig k (Mf.ck img ch k)] rfl (digs_one KD2.out trivial (Mf.cdig_ok _ _)) (by omega) (by omega) HB2.out.hb ?_
            intro s' v3 hown hg _
            rw [← nums_append, show (Mf.digsTo img ch k).flatten ++ [Mf.cdig k (Mf.ck img ch k)].flatten = (Mf.digsTo img ch (k + 1)).flatten by rw [Mf.digsTo_succ, List.flatten_append]] at hown
            have KM := Lib.hid (HB2.out.m.grown hg (fun e => by have h1 := own_ge HB2.out.own _ e.symm; have h2 := HB2.out.lt; omega))
            have x3 : v3.cell? ⟨M, 2, none⟩ = some (.slice q k cap) := KM.out.cell 2
            have f3 : v3.frozen? ⟨M, 2, none⟩ = false := KM.out.frozen 2
            obtain ⟨q', cap', rfl⟩ := Co.own_form hown
            have HS := Lib.hid (HB2.out.stored hg hown)
            clear hown hg
            refine hK.out _ _ trivial (fun hHeld => ?_)
            clear hK K
            try simp only [Act.put, List.getElem_toArray, List.getElem_cons_zero, List.getElem_cons_succ, List.setIfInBounds_toArray, List.set_cons_zero, List.set_cons_succ]
            refine wpAnyH_take (i := 9) (v := .pointer (some ⟨M, 2, none⟩)) rfl (by kernel_rfl) (by kernel_rfl) (by kernel_rfl) (fun _ _ _ h => h) (Or.inl ⟨by rfl, (by intro w hSw; (try dsimp only at hSw); go_simp)⟩) (by assumption) ?_
            try simp only [Act.put, List.getElem_toArray, List.getElem_cons_zero, List.getElem_cons_succ, List.setIfInBounds_toArray, List.set_cons_zero, List.set_cons_succ]
            refine wpAnyH_ready (rs := [10]) (by kernel_rfl) (by simp) (AllReadyH.cons rfl (fun K hK => ?_) AllReadyH.nil)
            try simp only [List.getElem_toArray, List.getElem_cons_zero, List.getElem_cons_succ]
            go_simp
            refine hK.out _ _ trivial (fun hHeld => ?_)
            clear hK K
            try simp only [Act.put, List.getElem_toArray, List.getElem_cons_zero, List.getElem_cons_succ, List.setIfInBounds_toArray, List.set_cons_zero, List.set_cons_succ]
            refine wpAnyH_done (by kernel_rfl) ?_ _
            generalize v3.setCell ⟨M, 2, none⟩ (.slice q' (k + 1) cap') = w7 at *
            clear x3 f3 KM
            go_wp2_with fail
            obtain ⟨a5, n5, c5, hr5, ht5⟩ := HS.out.r
            have hrl : lenAt w7 R = n5 := by rw [HS.out.rest]; exact ht5.1
            refine (next_any hr5 HS.out.c ht5).mono ?_
            rintro e w8 ⟨a6, n6, c6, a7, n7, c7, rfl, rfl, ht6, ht7⟩
            have hsum : n6 + n7 = n5 := by rw [← ht6.1, ← ht7.1, ← ht5.1]; exact take_drop_len _ _
            rw [Mf.ck_take] at ht6
            rw [Mf.ck_drop] at ht7
            have HN := Lib.hid (HS.out.next ht7)
            have HT6 := Lib.hid ht6
            have hnew : lenAt (w7.setCell ⟨R, 0, none⟩ (.slice a7 n7 c7)) R = n7 := by rw [HN.out.rest]; exact ht7.1
            have hold : lenAt wr R = n5 := by rw [HRE.out]; exact ht5.1
            clear hr5 ht5 ht6 ht7
            generalize w7.setCell ⟨R, 0, none⟩ (.slice a7 n7 c7) = w8 at *
            have HO := Lib.hid (show n6 + lenAt w8 R < n4 + lenAt wr R by omega)
            clear hrl hsum hnew hold
            go_wp2
            exact ⟨⟨k + 1, _, a6, n6, c6, by omega, rfl, HT6, HN⟩, HO.out⟩
    · obtain rfl : k = N := by omega
      have hn4 : n4 = 0 := by rw [← HTX.out.1]; exact Mf.ck_none HMU.out.2
      subst hn4
      obtain ⟨q, cap, rfl⟩ := Co.own_form HB.out.own
      have hds : (Mf.digsTo img ch k).length = k := Mf.digsTo_len _ _ _
      obtain ⟨aq, cq, hq, hqc, hdg⟩ := own_digs HB.out.own (Mf.digsTo_ok _ _ _) hds
      injection hq with hq1 _ hq3
      subst hq1 hq3
      have HDG := Lib.hid (And.intro hdg hqc)
      clear hdg hqc hds
      have hPs := msize (s := (img.length : Int)) (c := (ch : Int)) (v := .slice q k cap) (dig_len img)
      have hPa := mcs_one (s := (img.length : Int)) (c := (ch : Int)) (v := .slice q k cap) (h := Sm.dig img) rfl
      obtain ⟨P, hP⟩ : ∃ P, (mcs (img.length : Int) (ch : Int) (.slice q k cap) (Sm.dig img)).toArray = P := ⟨_, rfl⟩
      have KM := Lib.hid HB.out.m
      rw [hP] at hPs hPa KM
      have HP := Lib.hid hP
      clear hP
      have HZS := zm_size
      go_wp2_with (first
        | ((with_reducible show wpList _ _ _ ((⟨_, Op.load 27 _, _, _, _, _⟩ : Oper) :: _) _ _); refine wpList_load_row rfl _ (.tmp 6) rfl M rfl 27 P (0, 0) _ KM.out Tryd.underlying27 rfl (by rw [hPs]; exact info35) ?_)
        | ((with_reducible show wpList _ _ _ ((⟨_, Op.store 27 _ _, _, _, _, _⟩ : Oper) :: _) _ _); refine wpList_store_row rfl _ (.tmp 4) (.tmp 42) rfl w.heap.size P rfl rfl 27 _ HB.out.z (by rw [hPs]; exact info35) (by rw [HZS, hPs]) hPa ?_))
      refine bodyPost_ret (results_cell_one rfl _ _ _ _ rfl (loadVar35 (HB.out.z.row P) hPs)) rfl ?_
      refine ⟨⟨_, by rw [HBZ.out.2]; rfl, ?_⟩, below_row HB.out.b (Nat.le_refl _) _⟩
      rw [HBZ.out.1]
      have hg : ∀ b, Bo ≤ b → b ≠ w.heap.size := fun b hb => by have := HB.out.lt; omega
      refine ⟨q, k, cap, by rw [← HP.out]; rfl, HDG.out.2, ?_, dig_ok img, ⟨by show (-9223372036854775808 : Int) ≤ (img.length : Int); omega, by show (img.length : Int) ≤ 9223372036854775807; omega⟩, ⟨by show (-9223372036854775808 : Int) ≤ (ch : Int); omega, by show (ch : Int) ≤ 9223372036854775807; omega⟩⟩
      have h1 : (Mf.made img ch).ds = Mf.digsTo img ch k := by
        show Mf.digsTo img ((ch : Int)).toNat (Mf.cnt img.length ch) = _
        rw [HNE.out, Int.toNat_natCast]
      rw [h1]
      exact (HDG.out.1.keep (w' := wr.setRow w.heap.size P) (by simp [World.setRow]) (fun b _ hb => setRow_other wr w.heap.size b P (hg b hb))).weak (fun b _ hb => by have := HB.out.lt; show w.heap.size ≤ b; omega)
end Go.Proofs.YtdjibhpjdhpcgaaDoor
namespace Go.Proofs.YtdjibhpjdhpcgaaDoor
set_option maxRecDepth 20000
set_option linter.unusedSimpArgs false
open Go.RowKit
theorem wpList_store_part {P : Program} {ops : Array Oper} {rest : List Oper} {op : Oper} {a : Act} {w : World} {Q : Exit → Act → World → Prop} (hgd : op.guard = none) {n : TypeId} {cur : List Value} (ty : TypeId) (x y : Operand) (ho : op.op = .store ty x y)
    (g o : Nat) (cells : List Value) (hx : a.eval x = .pointer (some ⟨g, o, none⟩)) (hy : a.eval y = .agg cells.toArray)
    (hg : Whole w g n cur.toArray) (hi : (P.info? ty).map (·.size) = some cells.length) (h1 : ∀ v ∈ cells, v.oneCell' = true) (hf : o + cells.length ≤ cur.length)
    (h : wpList P ops Q rest (a.put op.dst undef) (w.setRow g (splice cur o cells).toArray)) : wpList P ops Q (op :: rest) a w :=
  wpList_plain hgd fun _ hK => wp_store_part ty x y ho g o cells hx hy hg hi h1 hf (hK _ _ h)
theorem yields_man {ops : Array Oper} {S : World → Prop} {o : Oper} {a : Act} (hw : Region.wanted o (yielded ops a.tmps) = true) (parts : List (Nat × Operand)) (ho : o.op = .build 27 parts.toArray)
    (vs : List (Nat × Value)) (hv : parts.map (fun q => (q.1, a.eval q.2)) = vs) (cells : List Value) (hc : Tryd.prog.built 27 vs = some cells.toArray) : YieldsIf Tryd.prog ops S o (.agg cells.toArray) a := by
  have e : (parts.toArray.map fun (i, x) => (i, a.eval x)).toList = vs := by rw [← hv]; simp
  refine Or.inl ⟨hw, fun w _ => ?_⟩
  unfold execOp
  simp only [ho, Sem.run_bind, run_build w 27 _ cells.toArray (by rw [e, hc]), Result.andThen_ok]
  rfl
theorem zs_get (n j : Nat) (h : j < n) : (nums (zs n))[j]? = some (.int .u8 0) := by
  rw [nums_get _ _ (by rw [zs_len]; exact h)]
  unfold zs
  simp [h]
theorem made_digs (n : Nat) : madeCells (nums (zs 32)).toArray (n * 32) = (nums (zs (n * 32))).toArray := by
  have hs : (nums (zs 32)).toArray.size = 32 := rfl
  apply Array.ext_getElem?
  intro i
  by_cases hi : i < n * 32
  · have hr : (nums (zs (n * 32))).toArray[i]? = some (.int .u8 0) := by rw [List.getElem?_toArray]; exact zs_get _ _ hi
    rw [hr]
    unfold madeCells
    rw [Array.getElem?_map, hs]
    simp [hi, zs_get 32 (i % 32) (Nat.mod_lt _ (by omega))]
  · rw [Array.getElem?_eq_none (by rw [size_madeCells]; omega), Array.getElem?_eq_none (by rw [List.size_toArray, nums_len, zs_len]; omega)]
theorem make_digs (n : Nat) (hn : n ≤ 1000) (w : World) : (Instr.makeSlice 24 (.int .i64 (n : Int)) (.int .i64 (n : Int))).run Tryd.prog w = .ok (.slice (some ⟨w.heap.size, 0, none⟩) n n) (w.alloc (.cells (nums (zs (n * 32))).toArray 25)) := by
  obtain ⟨i, hi, hz, hsize, hby⟩ := info_parts dig_info
  have h := run_make (P := Tryd.prog) w 24 25 i _ Tryd.underlying24 hi hz .i64 .i64 (n : Int) (n : Int) (by omega) (Int.le_refl _) (by rw [hby]; omega) (by omega)
  rw [hsize] at h
  simp only [Int.toNat_natCast, Value.cells] at h
  rw [made_digs] at h
  exact h
theorem slice_mid {a : Option Addr} {n c i j : Nat} (h1 : i ≤ j) (h2 : j ≤ c) (w : World) : (Instr.slice 23 (.slice a n c) (some (.int .i64 (i : Int))) (some (.int .i64 (j : Int))) none).run Tryd.prog w = .ok (.slice (if c = i then a else a.map (·.add i)) (j - i) (c - i)) w := by
  have hb : (0 : Int) ≤ (j : Int) ∧ (j : Int) ≤ (c : Int) := by omega
  have ha : (0 : Int) ≤ (i : Int) ∧ (i : Int) ≤ (j : Int) := by omega
  simp only [Instr.slice, Instr.sliceBounds, Instr.sliceBound, Sem.run_bind, Sem.run_pure, Result.andThen_ok, run_underlying Tryd.underlying23, asIntOf, if_pos hb, if_pos ha, sz_u8, Int.toNat_natCast, Nat.mul_one]
theorem txt_mid {w : World} {S : Nat → Prop} {a : Option Addr} {n c i j : Nat} {l : List Int} (h : Txt w S a n c l) (h1 : i ≤ j) (h2 : j ≤ n) : Txt w S (if c = i then a else a.map (·.add i)) (j - i) (c - i) ((l.drop i).take (j - i)) :=
  (h.drop i (by omega)).take (j - i) (by omega)
theorem ck_mid (img : List Int) (c k t : Nat) (ht : t = min ((k + 1) * c) img.length) (hk : k * c ≤ img.length) : (img.drop (k * c)).take (t - k * c) = Mf.ck img c k := by
  unfold Mf.ck
  have e : (k + 1) * c = k * c + c := by rw [Nat.add_mul, Nat.one_mul]
  by_cases h : (k + 1) * c ≤ img.length
  · rw [ht, Nat.min_eq_left h, e, Nat.add_sub_cancel_left]
  · rw [ht, Nat.min_eq_right (by omega), List.take_of_length_le (by rw [List.length_drop]; omega), List.take_of_length_le (by rw [List.length_drop]; omega)]
/-- The digests so far, and the others as they were made. -/
def dsTo (img : List Int) (ch N k : Nat) : List (List Int) := Mf.digsTo img ch k ++ List.replicate (N - k) (zs 32)
theorem dsTo_ok (img : List Int) (ch N k : Nat) : ∀ d ∈ dsTo img ch N k, Dig d := by
  intro d hd
  rcases List.mem_append.1 hd with h | h
  · exact Mf.digsTo_ok _ _ _ d h
  · rw [(List.mem_replicate.1 h).2]; exact ⟨rfl, byt_zeros 32⟩
theorem dsTo_len (img : List Int) (ch : Nat) {N k : Nat} (hk : k ≤ N) : (dsTo img ch N k).length = N := by
  unfold dsTo; rw [List.length_append, Mf.digsTo_len, List.length_replicate]; omega
theorem dsTo_all (img : List Int) (ch N : Nat) : dsTo img ch N N = Mf.digsTo img ch N := by unfold dsTo; simp
theorem rep_flat (n : Nat) : (List.replicate n (zs 32)).flatten = zs (n * 32) := by
  induction n with
  | zero => rfl
  | succ n ih =>
    rw [List.replicate_succ, List.flatten_cons, ih]
    unfold zs
    rw [← List.replicate_append_replicate.symm]
    congr 1; omega
theorem dsTo_zero (img : List Int) (ch N : Nat) : (dsTo img ch N 0).flatten = zs (N * 32) := by
  unfold dsTo
  rw [List.flatten_append, Nat.sub_zero, rep_flat]
  simp [Mf.digsTo]
theorem dsTo_splice (img : List Int) (ch : Nat) {N k : Nat} (hk : k < N) : splice (nums (dsTo img ch N k).flatten) (k * 32) (nums (Mf.cdig k (Mf.ck img ch k))) = nums (dsTo img ch N (k + 1)).flatten := by
  have hl : (nums (Mf.digsTo img ch k).flatten).length = k * 32 := by rw [nums_len, Mf.flatten_len (Mf.digsTo_ok _ _ _), Mf.digsTo_len]; omega
  have hd : (nums (Mf.cdig k (Mf.ck img ch k))).length = 32 := by rw [nums_len, (Mf.cdig_ok _ _).1]
  have hz : (nums (zs 32)).length = 32 := by rw [nums_len]; rfl
  unfold splice dsTo
  rw [show N - k = (N - (k + 1)) + 1 by omega, List.replicate_succ, Mf.digsTo_succ]
  simp only [List.flatten_append, List.flatten_cons, List.flatten_nil, List.append_nil, nums_append, List.append_assoc]
  rw [List.take_append_of_le_length (by omega), List.take_of_length_le (by omega), hd, List.drop_append, hl]
  rw [List.drop_of_length_le (by omega), List.nil_append, show k * 32 + 32 - k * 32 = 32 by omega, List.drop_append_of_le_length (by omega), List.drop_of_length_le (by omega), List.nil_append]
/-- What holds while the document's manifest is filled. -/
structure Rst (w : World) (M D : Nat) (img : List Int) (ch N k : Nat) (wr : World) : Prop where
  m : Whole wr M 27 (mcs img.length ch (.slice (some ⟨D, 0, none⟩) N N) (Sm.dig img)).toArray
  d : Whole wr D 25 (nums (dsTo img ch N k).flatten).toArray
  z : Whole wr w.heap.size 27 zm
  b : Below w.heap.size w wr
  lt : w.heap.size < M ∧ w.heap.size < D ∧ M ≠ D
theorem Rst.below {w : World} {M D : Nat} {img : List Int} {ch N k : Nat} {wr w' : World} (h : Rst w M D img ch N k wr) (hb : Below wr.heap.size wr w') : Rst w M D img ch N k w' :=
  ⟨h.m.below hb h.m.lt, h.d.below hb h.d.lt, h.z.below hb h.z.lt, h.b.trans (hb.mono h.b.size), h.lt⟩
theorem Rst.stored {w : World} {M D : Nat} {img : List Int} {ch N k : Nat} {wr : World} (h : Rst w M D img ch N k wr) (hk : k < N) : Rst w M D img ch N (k + 1) (wr.setRow D (splice (nums (dsTo img ch N k).flatten) (k * 32) (nums (Mf.cdig k (Mf.ck img ch k)))).toArray) := by
  obtain ⟨l1, l2, l3⟩ := h.lt
  rw [dsTo_splice img ch hk]
  exact ⟨h.m.rowFar l3 _, h.d.row _, h.z.rowFar (by omega) _, below_row h.b (by omega) _, h.lt⟩
theorem Rst.mv {w : World} {M D : Nat} {img : List Int} {ch N k : Nat} {wr : World} (h : Rst w M D img ch N k wr) (hk : k ≤ N) (hi : img.length ≤ 100000) (hc : ch ≤ 100000) :
    Mv wr (· = D) (.agg (mcs img.length ch (.slice (some ⟨D, 0, none⟩) N N) (Sm.dig img)).toArray) ⟨img.length, ch, dsTo img ch N k, Sm.dig img⟩ := by
  refine ⟨some ⟨D, 0, none⟩, N, N, rfl, Nat.le_refl _, ⟨dsTo_len _ _ hk, dsTo_ok _ _ _ _, Or.inr ⟨D, 0, rfl, rfl, h.d.lt, fun j hj r v hv => ?_⟩⟩, dig_ok img, ⟨by show (-9223372036854775808 : Int) ≤ (img.length : Int); omega, by show (img.length : Int) ≤ 9223372036854775807; omega⟩, ⟨by show (-9223372036854775808 : Int) ≤ (ch : Int); omega, by show (ch : Int) ≤ 9223372036854775807; omega⟩⟩
  have hr : r < 32 := by
    have h1 := (List.getElem?_eq_some_iff.1 hv).1
    have hdk : ((dsTo img ch N k).getD j []).length = 32 := by
      have : (dsTo img ch N k).getD j [] = (dsTo img ch N k)[j]'(by rw [dsTo_len _ _ hk]; exact hj) := by simp [dsTo_len _ _ hk, hj]
      rw [this]; exact (dsTo_ok _ _ _ _ _ (List.getElem_mem _)).1
    rw [nums_len, hdk] at h1; exact h1
  rw [h.d.cell, List.getElem?_toArray, Nat.zero_add, flat_idx (dsTo_ok _ _ _ _) j r (by rw [dsTo_len _ _ hk]; exact hj) hr]
  exact hv
theorem part_vals {img : List Int} {ch N k : Nat} {ds : List (List Int)} {wh : List Int} (hN : Mf.cnt img.length ch = N) (hds : ds.length = N) (hk : k < N) :
    Mf.fr ⟨img.length, ch, ds, wh⟩ (k : Int) = ((k * ch : Nat) : Int) ∧ Mf.til ⟨img.length, ch, ds, wh⟩ (k : Int) = ((min ((k + 1) * ch) img.length : Nat) : Int) ∧ k * ch < min ((k + 1) * ch) img.length := by
  have hne : Mf.cnt img.length ch ≠ 0 := by omega
  have hoff : ¬ Mf.off ⟨img.length, ch, ds, wh⟩ (k : Int) := by
    intro h
    rcases h with h | h | h
    · rcases h with h | h
      · exact hne h
      · exact h (by rw [hds]; exact hN.symm)
    · omega
    · simp only [hds] at h; omega
  obtain ⟨_, _, _, _, h3, _, _, _, h7, h8, h9⟩ := Mf.off_not hoff
  have e1 : ((k * ch : Nat) : Int) = (k : Int) * (ch : Int) := by push_cast; rfl
  have e2 : (((k + 1) * ch : Nat) : Int) = ((k : Int) + 1) * (ch : Int) := by push_cast; rfl
  simp only at h3 h7 h8 h9
  refine ⟨?_, ?_, ?_⟩
  · unfold Mf.fr; rw [if_neg hoff, e1]
  · unfold Mf.til; rw [if_neg hoff]
    simp only
    split <;> omega
  · omega
set_option maxHeartbeats 2000000 in
theorem rbuild_bad {w : World} {S : Nat → Prop} {a : Option Addr} {n c : Nat} {img : List Int} {ch : Int} (ht : Txt w S a n c img) (hch : In64 ch) (hn : n ≤ 800000) (hN : Mf.cnt img.length ch = 0) :
    Calls Tryd.prog 14 #[.slice a n c, .int .i64 ch] w (Bldd w img ch) := by
  have HBZ := Lib.hid (bld_zero hN)
  rw [ht.1] at hN
  have HN := Lib.hid hN
  have HCH := Lib.hid hch
  have hall := mcs_one (s := 0) (c := 0) (v := .slice none 0 0) (h := zs 32) rfl
  clear ht hch hN
  go_enter Tryd.func14, Tryd.ntmps14
  go_wp2_with (first
    | (go_at_call 35; refine (chunks_any _ _ _ ⟨by omega, by omega⟩ HCH.out).mono ?_; rintro e w1 ⟨rfl, rfl⟩; rw [HN.out])
    | ((with_reducible show wpList _ _ _ ((⟨_, Op.build 27 _, _, _, _, _⟩ : Oper) :: _) _ _); refine wpList_built rfl _ rfl _ rfl _ built_nil ?_)
    | ((with_reducible show wpList _ _ _ ((⟨_, Op.store 27 _ _, _, _, _, _⟩ : Oper) :: _) _ _); refine wpList_store_row rfl _ (.tmp 4) (.tmp 17) rfl w.heap.size zm rfl rfl 27 _ (Whole.new w _ _) (by rw [zm_size]; exact info35) (by rw [zm_size]; rfl) hall ?_))
  refine bodyPost_ret (results_cell_one rfl _ _ _ _ rfl (loadVar35 ((Whole.new w _ _).row zm) zm_size)) rfl ?_
  exact ⟨⟨_, by rw [HBZ.out.2]; rfl, by rw [HBZ.out.1]; exact zm_mv _ _⟩, below_row (below_alloc w _) (Nat.le_refl _) _⟩
theorem built_all32 (s c : Int) (a : Option Addr) (n k : Nat) (h0 h1 h2 h3 h4 h5 h6 h7 h8 h9 h10 h11 h12 h13 h14 h15 h16 h17 h18 h19 h20 h21 h22 h23 h24 h25 h26 h27 h28 h29 h30 h31 : Int) : Tryd.prog.built 27 [(0, .int .i64 s), (1, .int .i64 c), (2, .slice a n k), (3, .agg (nums [h0, h1, h2, h3, h4, h5, h6, h7, h8, h9, h10, h11, h12, h13, h14, h15, h16, h17, h18, h19, h20, h21, h22, h23, h24, h25, h26, h27, h28, h29, h30, h31]).toArray)] = some (mcs s c (.slice a n k) [h0, h1, h2, h3, h4, h5, h6, h7, h8, h9, h10, h11, h12, h13, h14, h15, h16, h17, h18, h19, h20, h21, h22, h23, h24, h25, h26, h27, h28, h29, h30, h31]).toArray := by kernel_rfl
theorem built_all (s c : Int) (a : Option Addr) (n k : Nat) (h : List Int) (hh : h.length = 32) : Tryd.prog.built 27 [(0, .int .i64 s), (1, .int .i64 c), (2, .slice a n k), (3, .agg (nums h).toArray)] = some (mcs s c (.slice a n k) h).toArray := by
  match h, hh with
  | [h0, h1, h2, h3, h4, h5, h6, h7, h8, h9, h10, h11, h12, h13, h14, h15, h16, h17, h18, h19, h20, h21, h22, h23, h24, h25, h26, h27, h28, h29, h30, h31], _ => exact built_all32 s c a n k h0 h1 h2 h3 h4 h5 h6 h7 h8 h9 h10 h11 h12 h13 h14 h15 h16 h17 h18 h19 h20 h21 h22 h23 h24 h25 h26 h27 h28 h29 h30 h31
set_option maxHeartbeats 8000000 in
theorem rbuild_good {w : World} {S : Nat → Prop} {a : Option Addr} {n c : Nat} {img : List Int} {ch : Nat} (ht : Txt w S a n c img) (hn : n ≤ 800000) (hN : Mf.cnt img.length ch ≠ 0) :
    Calls Tryd.prog 14 #[.slice a n c, .int .i64 (ch : Int)] w (Bldd w img ch) := by
  obtain rfl : img.length = n := ht.1
  have HBZ := Lib.hid (bld_made hN)
  obtain ⟨hs0, hs1, hc0, hc1⟩ := Mf.cnt_in hN
  have HMU := Lib.hid (Mf.cnt_mul hN)
  have hle := Mf.cnt_le img.length ch
  have HT := Lib.hid ht.old
  have hnc : img.length ≤ c := ht.2.1
  obtain ⟨N, hNe⟩ : ∃ N, Mf.cnt img.length ch = N := ⟨_, rfl⟩
  have HNE := Lib.hid hNe
  rw [hNe] at HMU hle hN
  have d0 : ((N : Int) == 0) = false := by simp; omega
  have hmk := make_digs N (by omega)
  clear ht hNe hN
  go_enter Tryd.func14, Tryd.ntmps14
  go_wp2_with (go_at_call 35; refine (chunks_any _ _ _ ⟨by omega, by omega⟩ ⟨by omega, by omega⟩).mono ?_; rintro e w1 ⟨rfl, rfl⟩; rw [HNE.out])
  rw [zeroM, show (mcs 0 0 (.slice none 0 0) (zs 32)).toArray = zm from rfl]
  refine wp_region_held_drew (S := fun _ => True) (by kernel_rfl) trivial (fun hHeld => ?_)
  have HZ0 := Lib.hid (show Whole (w.alloc (Obj.cells zm 27)).drew w.heap.size 27 zm from Whole.new w _ _)
  have HB0 := Lib.hid (show Below w.heap.size w (w.alloc (Obj.cells zm 27)).drew from (below_alloc w _).drew)
  have hl0 : w.heap.size < (w.alloc (Obj.cells zm 27)).drew.heap.size := by show w.heap.size < (w.alloc _).heap.size; rw [size_alloc]; omega
  generalize (w.alloc (Obj.cells zm 27)).drew = v0 at *
  refine wpAnyH_take (i := 0) (v := .slice a img.length c) rfl (by kernel_rfl) (by kernel_rfl) (by kernel_rfl) (fun _ _ _ h => h) (Or.inl ⟨by rfl, (by intro w hSw; (try dsimp only at hSw); go_simp)⟩) (by assumption) ?_
  try simp only [Act.put, List.getElem_toArray, List.getElem_cons_zero, List.getElem_cons_succ, List.setIfInBounds_toArray, List.set_cons_zero, List.set_cons_succ]
  refine wpAnyH_take (i := 1) (v := .int .i64 (img.length : Int)) rfl (by kernel_rfl) (by kernel_rfl) (by kernel_rfl) (fun _ _ _ h => h) (Or.inl ⟨by rfl, (by intro w hSw; (try dsimp only at hSw); go_simp)⟩) (by assumption) ?_
  try simp only [Act.put, List.getElem_toArray, List.getElem_cons_zero, List.getElem_cons_succ, List.setIfInBounds_toArray, List.set_cons_zero, List.set_cons_succ]
  refine wpAnyH_take (i := 2) (v := .int .i64 (ch : Int)) rfl (by kernel_rfl) (by kernel_rfl) (by kernel_rfl) (fun _ _ _ h => h) (Or.inl ⟨by rfl, (by intro w hSw; (try dsimp only at hSw); go_simp)⟩) (by assumption) ?_
  try simp only [Act.put, List.getElem_toArray, List.getElem_cons_zero, List.getElem_cons_succ, List.setIfInBounds_toArray, List.set_cons_zero, List.set_cons_succ]
  refine wpAnyH_take (i := 3) (v := .int .i64 (N : Int)) rfl (by kernel_rfl) (by kernel_rfl) (by kernel_rfl) (fun _ _ _ h => h) (Or.inl ⟨by rfl, (by intro w hSw; (try dsimp only at hSw); go_simp)⟩) (by assumption) ?_
  try simp only [Act.put, List.getElem_toArray, List.getElem_cons_zero, List.getElem_cons_succ, List.setIfInBounds_toArray, List.set_cons_zero, List.set_cons_succ]
  refine wpAnyH_take (i := 5) (v := .slice a img.length c) rfl (by kernel_rfl) (by kernel_rfl) (by kernel_rfl) (fun _ _ _ h => h) (Or.inl ⟨by rfl, (by intro w hSw; (try dsimp only at hSw); go_simp)⟩) (by assumption) ?_
  try simp only [Act.put, List.getElem_toArray, List.getElem_cons_zero, List.getElem_cons_succ, List.setIfInBounds_toArray, List.set_cons_zero, List.set_cons_succ]
  refine wpAnyH_ready (rs := [4, 6, 8]) (by kernel_rfl) (by simp) (AllReadyH.cons rfl (fun K hK => ?_) (AllReadyH.cons rfl (fun K hK => ?_) (AllReadyH.cons rfl (fun K hK => ?_) AllReadyH.nil)))
  · skip
    try simp only [List.getElem_toArray, List.getElem_cons_zero, List.getElem_cons_succ]
    go_simp
    refine hK.out _ _ trivial (fun hHeld => ?_)
    clear hK K
    try simp only [Act.put, List.getElem_toArray, List.getElem_cons_zero, List.getElem_cons_succ, List.setIfInBounds_toArray, List.set_cons_zero, List.set_cons_succ]
    have hb := below_alloc v0 (.cells (nums (zs (N * 32))).toArray 25)
    have hw := Whole.new v0 25 (nums (zs (N * 32))).toArray
    have hs := size_alloc v0 (.cells (nums (zs (N * 32))).toArray 25)
    generalize v0.alloc (.cells (nums (zs (N * 32))).toArray 25) = v1 at *
    have HB1 := Lib.hid (HB0.out.trans (hb.mono (Nat.le_of_lt hl0)))
    have HZ1 := Lib.hid (HZ0.out.below hb hl0)
    have hl1 : w.heap.size < v1.heap.size := HZ1.out.lt
    generalize v0.heap.size = D at *
    have HD1 := Lib.hid hw
    have hltD : w.heap.size < D := hl0
    clear hb hw hs
    clear HB0 HZ0
    refine wpAnyH_ready (rs := [6, 8]) (by kernel_rfl) (by simp) (AllReadyH.cons rfl (fun K hK => ?_) (AllReadyH.cons rfl (fun K hK => ?_) AllReadyH.nil))
    · skip
      try simp only [List.getElem_toArray, List.getElem_cons_zero, List.getElem_cons_succ]
      go_simp
      go_at_call 36
      refine (rsum_any (HT.out.below HB1.out (fun b _ h => h)) (by omega)).mono ?_
      rintro e v2 ⟨rfl, hb⟩
      have HB2 := Lib.hid (HB1.out.trans (hb.mono (Nat.le_of_lt hl1)))
      have HZ2 := Lib.hid (HZ1.out.below hb hl1)
      have hl2 : w.heap.size < v2.heap.size := HZ2.out.lt
      have HD2 := Lib.hid (HD1.out.below hb HD1.out.lt)
      clear hb
      clear HB1 HZ1 HD1
      go_wp2_with fail
      refine hK.out _ _ trivial (fun hHeld => ?_)
      clear hK K
      try simp only [Act.put, List.getElem_toArray, List.getElem_cons_zero, List.getElem_cons_succ, List.setIfInBounds_toArray, List.set_cons_zero, List.set_cons_succ]
      refine wpAnyH_take (i := 7) (v := .agg (mcs (img.length : Int) (ch : Int) (.slice (some ⟨D, 0, none⟩) N N) (Sm.dig img)).toArray) rfl (by kernel_rfl) (by kernel_rfl) (by kernel_rfl) (fun _ _ _ h => h) (yields_man (by rfl) [(0, .tmp 19), (1, .tmp 20), (2, .tmp 22), (3, .tmp 24)] rfl [(0, .int .i64 (img.length : Int)), (1, .int .i64 (ch : Int)), (2, .slice (some ⟨D, 0, none⟩) N N), (3, .agg (nums (Sm.dig img)).toArray)] rfl _ (built_all _ _ _ _ _ _ (dig_len img))) (by assumption) ?_
      try simp only [Act.put, List.getElem_toArray, List.getElem_cons_zero, List.getElem_cons_succ, List.setIfInBounds_toArray, List.set_cons_zero, List.set_cons_succ]
      refine wpAnyH_ready (rs := [8]) (by kernel_rfl) (by simp) (AllReadyH.cons rfl (fun K hK => ?_) AllReadyH.nil)
      try simp only [List.getElem_toArray, List.getElem_cons_zero, List.getElem_cons_succ]
      go_simp
      rw [zeroM, show (mcs 0 0 (.slice none 0 0) (zs 32)).toArray = zm from rfl]
      refine hK.out _ _ trivial (fun hHeld => ?_)
      clear hK K
      try simp only [Act.put, List.getElem_toArray, List.getElem_cons_zero, List.getElem_cons_succ, List.setIfInBounds_toArray, List.set_cons_zero, List.set_cons_succ]
      have hb := below_alloc v2 (.cells zm 27)
      have hw := Whole.new v2 27 zm
      have hs := size_alloc v2 (.cells zm 27)
      have hne : D < v2.heap.size := HD2.out.lt
      generalize v2.alloc (.cells zm 27) = v3 at *
      have HB3 := Lib.hid (HB2.out.trans (hb.mono (Nat.le_of_lt hl2)))
      have HZ3 := Lib.hid (HZ2.out.below hb hl2)
      have hl3 : w.heap.size < v3.heap.size := HZ3.out.lt
      have HD3 := Lib.hid (HD2.out.below hb HD2.out.lt)
      generalize v2.heap.size = M at *
      have HM3 := Lib.hid hw
      have hltM : w.heap.size < M := hl2
      clear hb hw hs
      clear HB2 HZ2 HD2
      have HNE2 : Hid (M ≠ D) := Lib.hid (by omega)
      have hPa := mcs_one (s := (img.length : Int)) (c := (ch : Int)) (v := .slice (some ⟨D, 0, none⟩) N N) (h := Sm.dig img) rfl
      have hPs := msize (s := (img.length : Int)) (c := (ch : Int)) (v := .slice (some ⟨D, 0, none⟩) N N) (dig_len img)
      have HPS := Lib.hid hPs
      clear hPs
      refine wpAnyH_ready (rs := [9]) (by kernel_rfl) (by simp) (AllReadyH.cons rfl (fun K hK => ?_) AllReadyH.nil)
      try simp only [List.getElem_toArray, List.getElem_cons_zero, List.getElem_cons_succ]
      refine if_wanted (by rfl) ?_
      refine wp_store_row _ (.tmp 7) (.tmp 25) rfl M (mcs (img.length : Int) (ch : Int) (.slice (some ⟨D, 0, none⟩) N N) (Sm.dig img)).toArray rfl rfl 27 _ HM3.out (by rw [HPS.out]; exact info35) (by rw [HPS.out]; rfl) hPa ?_
      have HS0 : Hid (Rst w M D img ch N 0 (v3.setRow M (mcs (img.length : Int) (ch : Int) (.slice (some ⟨D, 0, none⟩) N N) (Sm.dig img)).toArray)) := Lib.hid ⟨HM3.out.row _, by rw [dsTo_zero]; exact HD3.out.rowFar (Ne.symm HNE2.out) _, HZ3.out.rowFar (by omega) _, below_row HB3.out (by omega) _, ⟨hltM, hltD, HNE2.out⟩⟩
      refine hK.out _ _ trivial (fun hHeld => ?_)
      clear hK K
      try simp only [Act.put, List.getElem_toArray, List.getElem_cons_zero, List.getElem_cons_succ, List.setIfInBounds_toArray, List.set_cons_zero, List.set_cons_succ]
      refine wpAnyH_done (by kernel_rfl) ?_ _
      generalize v3.setRow M (mcs (img.length : Int) (ch : Int) (.slice (some ⟨D, 0, none⟩) N N) (Sm.dig img)).toArray = v4 at *
      clear HM3 HD3 HZ3 HB3 hPa hmk
      go_wp2
      go_loopw [8] (fun i wr => ∃ k : Nat, k ≤ N ∧ i = .int .i64 (k : Int) ∧ Hid (Rst w M D img ch N k wr)) (fun i _ => N - (intOf i).toNat)
      case atStart => exact ⟨0, Nat.zero_le _, rfl, HS0⟩
      case round =>
        clear HS0
        obtain ⟨k, hk, rfl, HK⟩ := hrel
        obtain ⟨P, hP⟩ : ∃ P, (mcs (img.length : Int) (ch : Int) (.slice (some ⟨D, 0, none⟩) N N) (Sm.dig img)).toArray = P := ⟨_, rfl⟩
        have HP := Lib.hid hP
        have HMV := HK.out.mv hk (by omega) (by omega)
        have KM := Lib.hid HK.out.m
        rw [hP] at HPS HMV KM
        have HMV := Lib.hid HMV
        have hPs := HPS.out
        by_cases hlt : k < N
        · have hv := part_vals (ds := dsTo img ch N k) (wh := Sm.dig img) HNE.out (dsTo_len img ch hk) hlt
          have hkm := ck_mid img ch k _ rfl (by omega)
          obtain ⟨f, hf⟩ : ∃ f, k * ch = f := ⟨_, rfl⟩
          obtain ⟨t, ht⟩ : ∃ t, min ((k + 1) * ch) img.length = t := ⟨_, rfl⟩
          rw [hf, ht] at hv hkm
          have htl : t ≤ img.length := by rw [← ht]; exact Nat.min_le_right _ _
          have HV := Lib.hid (And.intro hv.1 hv.2.1)
          have hft : f < t := hv.2.2
          have hsl := slice_mid (a := a) (n := img.length) (c := c) (i := f) (j := t) (by omega) (by omega)
          have HTM := txt_mid (i := f) (j := t) HT.out (by omega) htl
          rw [hkm] at HTM
          obtain ⟨A, hslA, HTA⟩ : ∃ A, (∀ w, (Instr.slice 23 (.slice a img.length c) (some (.int .i64 (f : Int))) (some (.int .i64 (t : Int))) none).run Tryd.prog w = .ok (.slice A (t - f) (c - f)) w) ∧ Hid (Txt w (fun b => b < w.heap.size) A (t - f) (c - f) (Mf.ck img ch k)) := ⟨_, hsl, Lib.hid HTM⟩
          clear hP hv hkm hf ht hsl HTM
          go_wp2_with (first
            | ((with_reducible show wpList _ _ _ ((⟨_, Op.load 27 _, _, _, _, _⟩ : Oper) :: _) _ _); refine wpList_load_row rfl _ (.tmp 7) rfl M rfl 27 P (0, 0) _ KM.out Tryd.underlying27 rfl (by rw [hPs]; exact info35) ?_)
            | (go_at_call 22; refine (rpart_any HMV.out (i := (k : Int)) ⟨by omega, by omega⟩).mono ?_; rintro e w5 ⟨rfl, hb5⟩; have HK5 := Lib.hid (HK.out.below hb5); clear hb5; rw [HV.out.1, HV.out.2]))
          have HK6 := Lib.hid (show Rst w M D img ch N k w5.drew from HK5.out.below (Below.refl _ _).drew)
          have x6 : w5.drew.cell? ⟨M, 2, none⟩ = some (.slice (some ⟨D, 0, none⟩) N N) := HK6.out.m.cell 2
          clear HK5
          refine wp_region_held_drew (S := fun w' => w'.cell? ⟨M, 2, none⟩ = some (.slice (some ⟨D, 0, none⟩) N N)) (by kernel_rfl) x6 (fun hHeld => ?_)
          generalize w5.drew = w6 at *
          refine wpAnyH_take (i := 0) (v := .pointer (some ⟨M, 2, none⟩)) rfl (by kernel_rfl) (by kernel_rfl) (by kernel_rfl) (fun _ _ _ h => h) (Or.inl ⟨by rfl, (by intro w hSw; (try dsimp only at hSw); go_simp)⟩) (by assumption) ?_
          try simp only [Act.put, List.getElem_toArray, List.getElem_cons_zero, List.getElem_cons_succ, List.setIfInBounds_toArray, List.set_cons_zero, List.set_cons_succ]
          refine wpAnyH_take (i := 1) (v := .slice (some ⟨D, 0, none⟩) N N) rfl (by kernel_rfl) (by kernel_rfl) (by kernel_rfl) (fun _ _ _ h => h) (Or.inl ⟨by rfl, (by intro w hSw; (try dsimp only at hSw); go_simp)⟩) (by assumption) ?_
          try simp only [Act.put, List.getElem_toArray, List.getElem_cons_zero, List.getElem_cons_succ, List.setIfInBounds_toArray, List.set_cons_zero, List.set_cons_succ]
          refine wpAnyH_take (i := 2) (v := .int .i64 (k : Int)) rfl (by kernel_rfl) (by kernel_rfl) (by kernel_rfl) (fun _ _ _ h => h) (Or.inl ⟨by rfl, (by intro w hSw; (try dsimp only at hSw); go_simp)⟩) (by assumption) ?_
          try simp only [Act.put, List.getElem_toArray, List.getElem_cons_zero, List.getElem_cons_succ, List.setIfInBounds_toArray, List.set_cons_zero, List.set_cons_succ]
          refine wpAnyH_take (i := 3) (v := .int .i64 (k : Int)) rfl (by kernel_rfl) (by kernel_rfl) (by kernel_rfl) (fun _ _ _ h => h) (Or.inl ⟨by rfl, (by intro w hSw; (try dsimp only at hSw); go_simp)⟩) (by assumption) ?_
          try simp only [Act.put, List.getElem_toArray, List.getElem_cons_zero, List.getElem_cons_succ, List.setIfInBounds_toArray, List.set_cons_zero, List.set_cons_succ]
          refine wpAnyH_take (i := 4) (v := .slice a img.length c) rfl (by kernel_rfl) (by kernel_rfl) (by kernel_rfl) (fun _ _ _ h => h) (Or.inl ⟨by rfl, (by intro w hSw; (try dsimp only at hSw); go_simp)⟩) (by assumption) ?_
          try simp only [Act.put, List.getElem_toArray, List.getElem_cons_zero, List.getElem_cons_succ, List.setIfInBounds_toArray, List.set_cons_zero, List.set_cons_succ]
          refine wpAnyH_take (i := 5) (v := .int .i64 (f : Int)) rfl (by kernel_rfl) (by kernel_rfl) (by kernel_rfl) (fun _ _ _ h => h) (Or.inl ⟨by rfl, (by intro w hSw; (try dsimp only at hSw); go_simp)⟩) (by assumption) ?_
          try simp only [Act.put, List.getElem_toArray, List.getElem_cons_zero, List.getElem_cons_succ, List.setIfInBounds_toArray, List.set_cons_zero, List.set_cons_succ]
          refine wpAnyH_take (i := 6) (v := .int .i64 (t : Int)) rfl (by kernel_rfl) (by kernel_rfl) (by kernel_rfl) (fun _ _ _ h => h) (Or.inl ⟨by rfl, (by intro w hSw; (try dsimp only at hSw); go_simp)⟩) (by assumption) ?_
          try simp only [Act.put, List.getElem_toArray, List.getElem_cons_zero, List.getElem_cons_succ, List.setIfInBounds_toArray, List.set_cons_zero, List.set_cons_succ]
          refine wpAnyH_take (i := 7) (v := .slice A (t - f) (c - f)) rfl (by kernel_rfl) (by kernel_rfl) (by kernel_rfl) (fun _ _ _ h => h) (Or.inl ⟨by rfl, (by intro w hSw; (try dsimp only at hSw); go_simp)⟩) (by assumption) ?_
          try simp only [Act.put, List.getElem_toArray, List.getElem_cons_zero, List.getElem_cons_succ, List.setIfInBounds_toArray, List.set_cons_zero, List.set_cons_succ]
          refine wpAnyH_ready (rs := [8]) (by kernel_rfl) (by simp) (AllReadyH.cons rfl (fun K hK => ?_) AllReadyH.nil)
          try simp only [List.getElem_toArray, List.getElem_cons_zero, List.getElem_cons_succ]
          go_simp
          go_at_call 37
          refine (rcdig_any (i := (k : Int)) (HTA.out.below HK6.out.b (fun b _ h => h)) (by omega) (by omega) (by omega)).mono ?_
          rintro e w7 ⟨rfl, hb7⟩
          have HK7 := Lib.hid (HK6.out.below hb7)
          have x7 : w7.cell? ⟨M, 2, none⟩ = some (.slice (some ⟨D, 0, none⟩) N N) := HK7.out.m.cell 2
          clear hb7 HK6 x6
          go_wp2_with fail
          refine hK.out _ _ x7 (fun hHeld => ?_)
          clear hK K
          try simp only [Act.put, List.getElem_toArray, List.getElem_cons_zero, List.getElem_cons_succ, List.setIfInBounds_toArray, List.set_cons_zero, List.set_cons_succ]
          refine wpAnyH_take (i := 9) (v := .pointer (some ⟨D, k * 32, none⟩)) rfl (by kernel_rfl) (by kernel_rfl) (by kernel_rfl) (fun _ _ _ h => h) (Or.inl ⟨by rfl, (by intro w hSw; (try dsimp only at hSw); go_simp)⟩) (by assumption) ?_
          try simp only [Act.put, List.getElem_toArray, List.getElem_cons_zero, List.getElem_cons_succ, List.setIfInBounds_toArray, List.set_cons_zero, List.set_cons_succ]
          refine wpAnyH_ready (rs := [10]) (by kernel_rfl) (by simp) (AllReadyH.cons rfl (fun K hK => ?_) AllReadyH.nil)
          try simp only [List.getElem_toArray, List.getElem_cons_zero, List.getElem_cons_succ]
          refine if_wanted (by rfl) ?_
          refine wp_store_part _ (.tmp 46) (.tmp 45) rfl D (k * 32) (nums (Mf.cdig k (Mf.ck img ch k))) rfl rfl HK7.out.d (by rw [nums_len, (Mf.cdig_ok _ _).1]; exact info32) (nums_one _) (by rw [nums_len, nums_len, (Mf.cdig_ok _ _).1, Mf.flatten_len (dsTo_ok _ _ _ _), dsTo_len _ _ hk]; omega) ?_
          have HS := Lib.hid (HK7.out.stored hlt)
          refine hK.out _ _ (HS.out.m.cell 2) (fun hHeld => ?_)
          clear hK K
          try simp only [Act.put, List.getElem_toArray, List.getElem_cons_zero, List.getElem_cons_succ, List.setIfInBounds_toArray, List.set_cons_zero, List.set_cons_succ]
          refine wpAnyH_done (by kernel_rfl) ?_ _
          generalize w7.setRow D (splice (nums (dsTo img ch N k).flatten) (k * 32) (nums (Mf.cdig k (Mf.ck img ch k)))).toArray = w8 at *
          go_wp2
          exact ⟨⟨k + 1, by omega, by go_num, HS⟩, by simp [intOf]; omega⟩
        · obtain rfl : k = N := by omega
          have hPa := mcs_one (s := (img.length : Int)) (c := (ch : Int)) (v := .slice (some ⟨D, 0, none⟩) k k) (h := Sm.dig img) rfl
          rw [hP] at hPa
          have HZS := zm_size
          clear hP
          go_wp2_with (first
            | ((with_reducible show wpList _ _ _ ((⟨_, Op.load 27 _, _, _, _, _⟩ : Oper) :: _) _ _); refine wpList_load_row rfl _ (.tmp 7) rfl M rfl 27 P (0, 0) _ KM.out Tryd.underlying27 rfl (by rw [hPs]; exact info35) ?_)
            | ((with_reducible show wpList _ _ _ ((⟨_, Op.store 27 _ _, _, _, _, _⟩ : Oper) :: _) _ _); refine wpList_store_row rfl _ (.tmp 4) (.tmp 47) rfl w.heap.size P rfl rfl 27 _ HK.out.z (by rw [hPs]; exact info35) (by rw [HZS, hPs]) hPa ?_))
          refine bodyPost_ret (results_cell_one rfl _ _ _ _ rfl (loadVar35 (HK.out.z.row P) hPs)) rfl ?_
          refine ⟨⟨_, by rw [HBZ.out.2]; rfl, ?_⟩, below_row HK.out.b (Nat.le_refl _) _⟩
          rw [HBZ.out.1]
          have hl := HK.out.lt
          have h1 : Mf.made img ch = ⟨img.length, ch, dsTo img ch k k, Sm.dig img⟩ := by
            rw [dsTo_all]
            show (⟨img.length, ch, Mf.digsTo img ((ch : Int)).toNat (Mf.cnt img.length ch), Sm.dig img⟩ : Mf.Man) = _
            rw [HNE.out, Int.toNat_natCast]
          rw [h1]
          exact (HMV.out.keep (w' := wr.setRow w.heap.size P) (by simp [World.setRow]) (fun b _ hb => setRow_other wr w.heap.size b P (by omega))).weak (fun b _ hb => by show w.heap.size ≤ b; omega)
    · skip
      try simp only [List.getElem_toArray, List.getElem_cons_zero, List.getElem_cons_succ]
      go_simp
      rw [zeroM, show (mcs 0 0 (.slice none 0 0) (zs 32)).toArray = zm from rfl]
      refine hK.out _ _ trivial (fun hHeld => ?_)
      clear hK K
      try simp only [Act.put, List.getElem_toArray, List.getElem_cons_zero, List.getElem_cons_succ, List.setIfInBounds_toArray, List.set_cons_zero, List.set_cons_succ]
      have hb := below_alloc v1 (.cells zm 27)
      have hw := Whole.new v1 27 zm
      have hs := size_alloc v1 (.cells zm 27)
      have hne : D < v1.heap.size := HD1.out.lt
      generalize v1.alloc (.cells zm 27) = v2 at *
      have HB2 := Lib.hid (HB1.out.trans (hb.mono (Nat.le_of_lt hl1)))
      have HZ2 := Lib.hid (HZ1.out.below hb hl1)
      have hl2 : w.heap.size < v2.heap.size := HZ2.out.lt
      have HD2 := Lib.hid (HD1.out.below hb HD1.out.lt)
      generalize v1.heap.size = M at *
      have HM2 := Lib.hid hw
      have hltM : w.heap.size < M := hl1
      clear hb hw hs
      clear HB1 HZ1 HD1
      have HNE2 : Hid (M ≠ D) := Lib.hid (by omega)
      refine wpAnyH_ready (rs := [6]) (by kernel_rfl) (by simp) (AllReadyH.cons rfl (fun K hK => ?_) AllReadyH.nil)
      try simp only [List.getElem_toArray, List.getElem_cons_zero, List.getElem_cons_succ]
      go_simp
      go_at_call 36
      refine (rsum_any (HT.out.below HB2.out (fun b _ h => h)) (by omega)).mono ?_
      rintro e v3 ⟨rfl, hb⟩
      have HB3 := Lib.hid (HB2.out.trans (hb.mono (Nat.le_of_lt hl2)))
      have HZ3 := Lib.hid (HZ2.out.below hb hl2)
      have hl3 : w.heap.size < v3.heap.size := HZ3.out.lt
      have HD3 := Lib.hid (HD2.out.below hb HD2.out.lt)
      have HM3 := Lib.hid (HM2.out.below hb HM2.out.lt)
      clear hb
      clear HB2 HZ2 HD2 HM2
      go_wp2_with fail
      refine hK.out _ _ trivial (fun hHeld => ?_)
      clear hK K
      try simp only [Act.put, List.getElem_toArray, List.getElem_cons_zero, List.getElem_cons_succ, List.setIfInBounds_toArray, List.set_cons_zero, List.set_cons_succ]
      refine wpAnyH_take (i := 7) (v := .agg (mcs (img.length : Int) (ch : Int) (.slice (some ⟨D, 0, none⟩) N N) (Sm.dig img)).toArray) rfl (by kernel_rfl) (by kernel_rfl) (by kernel_rfl) (fun _ _ _ h => h) (yields_man (by rfl) [(0, .tmp 19), (1, .tmp 20), (2, .tmp 22), (3, .tmp 24)] rfl [(0, .int .i64 (img.length : Int)), (1, .int .i64 (ch : Int)), (2, .slice (some ⟨D, 0, none⟩) N N), (3, .agg (nums (Sm.dig img)).toArray)] rfl _ (built_all _ _ _ _ _ _ (dig_len img))) (by assumption) ?_
      try simp only [Act.put, List.getElem_toArray, List.getElem_cons_zero, List.getElem_cons_succ, List.setIfInBounds_toArray, List.set_cons_zero, List.set_cons_succ]
      have hPa := mcs_one (s := (img.length : Int)) (c := (ch : Int)) (v := .slice (some ⟨D, 0, none⟩) N N) (h := Sm.dig img) rfl
      have hPs := msize (s := (img.length : Int)) (c := (ch : Int)) (v := .slice (some ⟨D, 0, none⟩) N N) (dig_len img)
      have HPS := Lib.hid hPs
      clear hPs
      refine wpAnyH_ready (rs := [9]) (by kernel_rfl) (by simp) (AllReadyH.cons rfl (fun K hK => ?_) AllReadyH.nil)
      try simp only [List.getElem_toArray, List.getElem_cons_zero, List.getElem_cons_succ]
      refine if_wanted (by rfl) ?_
      refine wp_store_row _ (.tmp 7) (.tmp 25) rfl M (mcs (img.length : Int) (ch : Int) (.slice (some ⟨D, 0, none⟩) N N) (Sm.dig img)).toArray rfl rfl 27 _ HM3.out (by rw [HPS.out]; exact info35) (by rw [HPS.out]; rfl) hPa ?_
      have HS0 : Hid (Rst w M D img ch N 0 (v3.setRow M (mcs (img.length : Int) (ch : Int) (.slice (some ⟨D, 0, none⟩) N N) (Sm.dig img)).toArray)) := Lib.hid ⟨HM3.out.row _, by rw [dsTo_zero]; exact HD3.out.rowFar (Ne.symm HNE2.out) _, HZ3.out.rowFar (by omega) _, below_row HB3.out (by omega) _, ⟨hltM, hltD, HNE2.out⟩⟩
      refine hK.out _ _ trivial (fun hHeld => ?_)
      clear hK K
      try simp only [Act.put, List.getElem_toArray, List.getElem_cons_zero, List.getElem_cons_succ, List.setIfInBounds_toArray, List.set_cons_zero, List.set_cons_succ]
      refine wpAnyH_done (by kernel_rfl) ?_ _
      generalize v3.setRow M (mcs (img.length : Int) (ch : Int) (.slice (some ⟨D, 0, none⟩) N N) (Sm.dig img)).toArray = v4 at *
      clear HM3 HD3 HZ3 HB3 hPa hmk
      go_wp2
      go_loopw [8] (fun i wr => ∃ k : Nat, k ≤ N ∧ i = .int .i64 (k : Int) ∧ Hid (Rst w M D img ch N k wr)) (fun i _ => N - (intOf i).toNat)
      case atStart => exact ⟨0, Nat.zero_le _, rfl, HS0⟩
      case round =>
        clear HS0
        obtain ⟨k, hk, rfl, HK⟩ := hrel
        obtain ⟨P, hP⟩ : ∃ P, (mcs (img.length : Int) (ch : Int) (.slice (some ⟨D, 0, none⟩) N N) (Sm.dig img)).toArray = P := ⟨_, rfl⟩
        have HP := Lib.hid hP
        have HMV := HK.out.mv hk (by omega) (by omega)
        have KM := Lib.hid HK.out.m
        rw [hP] at HPS HMV KM
        have HMV := Lib.hid HMV
        have hPs := HPS.out
        by_cases hlt : k < N
        · have hv := part_vals (ds := dsTo img ch N k) (wh := Sm.dig img) HNE.out (dsTo_len img ch hk) hlt
          have hkm := ck_mid img ch k _ rfl (by omega)
          obtain ⟨f, hf⟩ : ∃ f, k * ch = f := ⟨_, rfl⟩
          obtain ⟨t, ht⟩ : ∃ t, min ((k + 1) * ch) img.length = t := ⟨_, rfl⟩
          rw [hf, ht] at hv hkm
          have htl : t ≤ img.length := by rw [← ht]; exact Nat.min_le_right _ _
          have HV := Lib.hid (And.intro hv.1 hv.2.1)
          have hft : f < t := hv.2.2
          have hsl := slice_mid (a := a) (n := img.length) (c := c) (i := f) (j := t) (by omega) (by omega)
          have HTM := txt_mid (i := f) (j := t) HT.out (by omega) htl
          rw [hkm] at HTM
          obtain ⟨A, hslA, HTA⟩ : ∃ A, (∀ w, (Instr.slice 23 (.slice a img.length c) (some (.int .i64 (f : Int))) (some (.int .i64 (t : Int))) none).run Tryd.prog w = .ok (.slice A (t - f) (c - f)) w) ∧ Hid (Txt w (fun b => b < w.heap.size) A (t - f) (c - f) (Mf.ck img ch k)) := ⟨_, hsl, Lib.hid HTM⟩
          clear hP hv hkm hf ht hsl HTM
          go_wp2_with (first
            | ((with_reducible show wpList _ _ _ ((⟨_, Op.load 27 _, _, _, _, _⟩ : Oper) :: _) _ _); refine wpList_load_row rfl _ (.tmp 7) rfl M rfl 27 P (0, 0) _ KM.out Tryd.underlying27 rfl (by rw [hPs]; exact info35) ?_)
            | (go_at_call 22; refine (rpart_any HMV.out (i := (k : Int)) ⟨by omega, by omega⟩).mono ?_; rintro e w5 ⟨rfl, hb5⟩; have HK5 := Lib.hid (HK.out.below hb5); clear hb5; rw [HV.out.1, HV.out.2]))
          have HK6 := Lib.hid (show Rst w M D img ch N k w5.drew from HK5.out.below (Below.refl _ _).drew)
          have x6 : w5.drew.cell? ⟨M, 2, none⟩ = some (.slice (some ⟨D, 0, none⟩) N N) := HK6.out.m.cell 2
          clear HK5
          refine wp_region_held_drew (S := fun w' => w'.cell? ⟨M, 2, none⟩ = some (.slice (some ⟨D, 0, none⟩) N N)) (by kernel_rfl) x6 (fun hHeld => ?_)
          generalize w5.drew = w6 at *
          refine wpAnyH_take (i := 0) (v := .pointer (some ⟨M, 2, none⟩)) rfl (by kernel_rfl) (by kernel_rfl) (by kernel_rfl) (fun _ _ _ h => h) (Or.inl ⟨by rfl, (by intro w hSw; (try dsimp only at hSw); go_simp)⟩) (by assumption) ?_
          try simp only [Act.put, List.getElem_toArray, List.getElem_cons_zero, List.getElem_cons_succ, List.setIfInBounds_toArray, List.set_cons_zero, List.set_cons_succ]
          refine wpAnyH_take (i := 1) (v := .slice (some ⟨D, 0, none⟩) N N) rfl (by kernel_rfl) (by kernel_rfl) (by kernel_rfl) (fun _ _ _ h => h) (Or.inl ⟨by rfl, (by intro w hSw; (try dsimp only at hSw); go_simp)⟩) (by assumption) ?_
          try simp only [Act.put, List.getElem_toArray, List.getElem_cons_zero, List.getElem_cons_succ, List.setIfInBounds_toArray, List.set_cons_zero, List.set_cons_succ]
          refine wpAnyH_take (i := 2) (v := .int .i64 (k : Int)) rfl (by kernel_rfl) (by kernel_rfl) (by kernel_rfl) (fun _ _ _ h => h) (Or.inl ⟨by rfl, (by intro w hSw; (try dsimp only at hSw); go_simp)⟩) (by assumption) ?_
          try simp only [Act.put, List.getElem_toArray, List.getElem_cons_zero, List.getElem_cons_succ, List.setIfInBounds_toArray, List.set_cons_zero, List.set_cons_succ]
          refine wpAnyH_take (i := 3) (v := .int .i64 (k : Int)) rfl (by kernel_rfl) (by kernel_rfl) (by kernel_rfl) (fun _ _ _ h => h) (Or.inl ⟨by rfl, (by intro w hSw; (try dsimp only at hSw); go_simp)⟩) (by assumption) ?_
          try simp only [Act.put, List.getElem_toArray, List.getElem_cons_zero, List.getElem_cons_succ, List.setIfInBounds_toArray, List.set_cons_zero, List.set_cons_succ]
          refine wpAnyH_take (i := 4) (v := .slice a img.length c) rfl (by kernel_rfl) (by kernel_rfl) (by kernel_rfl) (fun _ _ _ h => h) (Or.inl ⟨by rfl, (by intro w hSw; (try dsimp only at hSw); go_simp)⟩) (by assumption) ?_
          try simp only [Act.put, List.getElem_toArray, List.getElem_cons_zero, List.getElem_cons_succ, List.setIfInBounds_toArray, List.set_cons_zero, List.set_cons_succ]
          refine wpAnyH_take (i := 5) (v := .int .i64 (f : Int)) rfl (by kernel_rfl) (by kernel_rfl) (by kernel_rfl) (fun _ _ _ h => h) (Or.inl ⟨by rfl, (by intro w hSw; (try dsimp only at hSw); go_simp)⟩) (by assumption) ?_
          try simp only [Act.put, List.getElem_toArray, List.getElem_cons_zero, List.getElem_cons_succ, List.setIfInBounds_toArray, List.set_cons_zero, List.set_cons_succ]
          refine wpAnyH_take (i := 6) (v := .int .i64 (t : Int)) rfl (by kernel_rfl) (by kernel_rfl) (by kernel_rfl) (fun _ _ _ h => h) (Or.inl ⟨by rfl, (by intro w hSw; (try dsimp only at hSw); go_simp)⟩) (by assumption) ?_
          try simp only [Act.put, List.getElem_toArray, List.getElem_cons_zero, List.getElem_cons_succ, List.setIfInBounds_toArray, List.set_cons_zero, List.set_cons_succ]
          refine wpAnyH_take (i := 7) (v := .slice A (t - f) (c - f)) rfl (by kernel_rfl) (by kernel_rfl) (by kernel_rfl) (fun _ _ _ h => h) (Or.inl ⟨by rfl, (by intro w hSw; (try dsimp only at hSw); go_simp)⟩) (by assumption) ?_
          try simp only [Act.put, List.getElem_toArray, List.getElem_cons_zero, List.getElem_cons_succ, List.setIfInBounds_toArray, List.set_cons_zero, List.set_cons_succ]
          refine wpAnyH_ready (rs := [8]) (by kernel_rfl) (by simp) (AllReadyH.cons rfl (fun K hK => ?_) AllReadyH.nil)
          try simp only [List.getElem_toArray, List.getElem_cons_zero, List.getElem_cons_succ]
          go_simp
          go_at_call 37
          refine (rcdig_any (i := (k : Int)) (HTA.out.below HK6.out.b (fun b _ h => h)) (by omega) (by omega) (by omega)).mono ?_
          rintro e w7 ⟨rfl, hb7⟩
          have HK7 := Lib.hid (HK6.out.below hb7)
          have x7 : w7.cell? ⟨M, 2, none⟩ = some (.slice (some ⟨D, 0, none⟩) N N) := HK7.out.m.cell 2
          clear hb7 HK6 x6
          go_wp2_with fail
          refine hK.out _ _ x7 (fun hHeld => ?_)
          clear hK K
          try simp only [Act.put, List.getElem_toArray, List.getElem_cons_zero, List.getElem_cons_succ, List.setIfInBounds_toArray, List.set_cons_zero, List.set_cons_succ]
          refine wpAnyH_take (i := 9) (v := .pointer (some ⟨D, k * 32, none⟩)) rfl (by kernel_rfl) (by kernel_rfl) (by kernel_rfl) (fun _ _ _ h => h) (Or.inl ⟨by rfl, (by intro w hSw; (try dsimp only at hSw); go_simp)⟩) (by assumption) ?_
          try simp only [Act.put, List.getElem_toArray, List.getElem_cons_zero, List.getElem_cons_succ, List.setIfInBounds_toArray, List.set_cons_zero, List.set_cons_succ]
          refine wpAnyH_ready (rs := [10]) (by kernel_rfl) (by simp) (AllReadyH.cons rfl (fun K hK => ?_) AllReadyH.nil)
          try simp only [List.getElem_toArray, List.getElem_cons_zero, List.getElem_cons_succ]
          refine if_wanted (by rfl) ?_
          refine wp_store_part _ (.tmp 46) (.tmp 45) rfl D (k * 32) (nums (Mf.cdig k (Mf.ck img ch k))) rfl rfl HK7.out.d (by rw [nums_len, (Mf.cdig_ok _ _).1]; exact info32) (nums_one _) (by rw [nums_len, nums_len, (Mf.cdig_ok _ _).1, Mf.flatten_len (dsTo_ok _ _ _ _), dsTo_len _ _ hk]; omega) ?_
          have HS := Lib.hid (HK7.out.stored hlt)
          refine hK.out _ _ (HS.out.m.cell 2) (fun hHeld => ?_)
          clear hK K
          try simp only [Act.put, List.getElem_toArray, List.getElem_cons_zero, List.getElem_cons_succ, List.setIfInBounds_toArray, List.set_cons_zero, List.set_cons_succ]
          refine wpAnyH_done (by kernel_rfl) ?_ _
          generalize w7.setRow D (splice (nums (dsTo img ch N k).flatten) (k * 32) (nums (Mf.cdig k (Mf.ck img ch k)))).toArray = w8 at *
          go_wp2
          exact ⟨⟨k + 1, by omega, by go_num, HS⟩, by simp [intOf]; omega⟩
        · obtain rfl : k = N := by omega
          have hPa := mcs_one (s := (img.length : Int)) (c := (ch : Int)) (v := .slice (some ⟨D, 0, none⟩) k k) (h := Sm.dig img) rfl
          rw [hP] at hPa
          have HZS := zm_size
          clear hP
          go_wp2_with (first
            | ((with_reducible show wpList _ _ _ ((⟨_, Op.load 27 _, _, _, _, _⟩ : Oper) :: _) _ _); refine wpList_load_row rfl _ (.tmp 7) rfl M rfl 27 P (0, 0) _ KM.out Tryd.underlying27 rfl (by rw [hPs]; exact info35) ?_)
            | ((with_reducible show wpList _ _ _ ((⟨_, Op.store 27 _ _, _, _, _, _⟩ : Oper) :: _) _ _); refine wpList_store_row rfl _ (.tmp 4) (.tmp 47) rfl w.heap.size P rfl rfl 27 _ HK.out.z (by rw [hPs]; exact info35) (by rw [HZS, hPs]) hPa ?_))
          refine bodyPost_ret (results_cell_one rfl _ _ _ _ rfl (loadVar35 (HK.out.z.row P) hPs)) rfl ?_
          refine ⟨⟨_, by rw [HBZ.out.2]; rfl, ?_⟩, below_row HK.out.b (Nat.le_refl _) _⟩
          rw [HBZ.out.1]
          have hl := HK.out.lt
          have h1 : Mf.made img ch = ⟨img.length, ch, dsTo img ch k k, Sm.dig img⟩ := by
            rw [dsTo_all]
            show (⟨img.length, ch, Mf.digsTo img ((ch : Int)).toNat (Mf.cnt img.length ch), Sm.dig img⟩ : Mf.Man) = _
            rw [HNE.out, Int.toNat_natCast]
          rw [h1]
          exact (HMV.out.keep (w' := wr.setRow w.heap.size P) (by simp [World.setRow]) (fun b _ hb => setRow_other wr w.heap.size b P (by omega))).weak (fun b _ hb => by show w.heap.size ≤ b; omega)
  · skip
    try simp only [List.getElem_toArray, List.getElem_cons_zero, List.getElem_cons_succ]
    go_simp
    go_at_call 36
    refine (rsum_any (HT.out.below HB0.out (fun b _ h => h)) (by omega)).mono ?_
    rintro e v1 ⟨rfl, hb⟩
    have HB1 := Lib.hid (HB0.out.trans (hb.mono (Nat.le_of_lt hl0)))
    have HZ1 := Lib.hid (HZ0.out.below hb hl0)
    have hl1 : w.heap.size < v1.heap.size := HZ1.out.lt
    clear hb
    clear HB0 HZ0
    go_wp2_with fail
    refine hK.out _ _ trivial (fun hHeld => ?_)
    clear hK K
    try simp only [Act.put, List.getElem_toArray, List.getElem_cons_zero, List.getElem_cons_succ, List.setIfInBounds_toArray, List.set_cons_zero, List.set_cons_succ]
    refine wpAnyH_ready (rs := [4, 8]) (by kernel_rfl) (by simp) (AllReadyH.cons rfl (fun K hK => ?_) (AllReadyH.cons rfl (fun K hK => ?_) AllReadyH.nil))
    · skip
      try simp only [List.getElem_toArray, List.getElem_cons_zero, List.getElem_cons_succ]
      go_simp
      refine hK.out _ _ trivial (fun hHeld => ?_)
      clear hK K
      try simp only [Act.put, List.getElem_toArray, List.getElem_cons_zero, List.getElem_cons_succ, List.setIfInBounds_toArray, List.set_cons_zero, List.set_cons_succ]
      have hb := below_alloc v1 (.cells (nums (zs (N * 32))).toArray 25)
      have hw := Whole.new v1 25 (nums (zs (N * 32))).toArray
      have hs := size_alloc v1 (.cells (nums (zs (N * 32))).toArray 25)
      generalize v1.alloc (.cells (nums (zs (N * 32))).toArray 25) = v2 at *
      have HB2 := Lib.hid (HB1.out.trans (hb.mono (Nat.le_of_lt hl1)))
      have HZ2 := Lib.hid (HZ1.out.below hb hl1)
      have hl2 : w.heap.size < v2.heap.size := HZ2.out.lt
      generalize v1.heap.size = D at *
      have HD2 := Lib.hid hw
      have hltD : w.heap.size < D := hl1
      clear hb hw hs
      clear HB1 HZ1
      refine wpAnyH_take (i := 7) (v := .agg (mcs (img.length : Int) (ch : Int) (.slice (some ⟨D, 0, none⟩) N N) (Sm.dig img)).toArray) rfl (by kernel_rfl) (by kernel_rfl) (by kernel_rfl) (fun _ _ _ h => h) (yields_man (by rfl) [(0, .tmp 19), (1, .tmp 20), (2, .tmp 22), (3, .tmp 24)] rfl [(0, .int .i64 (img.length : Int)), (1, .int .i64 (ch : Int)), (2, .slice (some ⟨D, 0, none⟩) N N), (3, .agg (nums (Sm.dig img)).toArray)] rfl _ (built_all _ _ _ _ _ _ (dig_len img))) (by assumption) ?_
      try simp only [Act.put, List.getElem_toArray, List.getElem_cons_zero, List.getElem_cons_succ, List.setIfInBounds_toArray, List.set_cons_zero, List.set_cons_succ]
      refine wpAnyH_ready (rs := [8]) (by kernel_rfl) (by simp) (AllReadyH.cons rfl (fun K hK => ?_) AllReadyH.nil)
      try simp only [List.getElem_toArray, List.getElem_cons_zero, List.getElem_cons_succ]
      go_simp
      rw [zeroM, show (mcs 0 0 (.slice none 0 0) (zs 32)).toArray = zm from rfl]
      refine hK.out _ _ trivial (fun hHeld => ?_)
      clear hK K
      try simp only [Act.put, List.getElem_toArray, List.getElem_cons_zero, List.getElem_cons_succ, List.setIfInBounds_toArray, List.set_cons_zero, List.set_cons_succ]
      have hb := below_alloc v2 (.cells zm 27)
      have hw := Whole.new v2 27 zm
      have hs := size_alloc v2 (.cells zm 27)
      have hne : D < v2.heap.size := HD2.out.lt
      generalize v2.alloc (.cells zm 27) = v3 at *
      have HB3 := Lib.hid (HB2.out.trans (hb.mono (Nat.le_of_lt hl2)))
      have HZ3 := Lib.hid (HZ2.out.below hb hl2)
      have hl3 : w.heap.size < v3.heap.size := HZ3.out.lt
      have HD3 := Lib.hid (HD2.out.below hb HD2.out.lt)
      generalize v2.heap.size = M at *
      have HM3 := Lib.hid hw
      have hltM : w.heap.size < M := hl2
      clear hb hw hs
      clear HB2 HZ2 HD2
      have HNE2 : Hid (M ≠ D) := Lib.hid (by omega)
      have hPa := mcs_one (s := (img.length : Int)) (c := (ch : Int)) (v := .slice (some ⟨D, 0, none⟩) N N) (h := Sm.dig img) rfl
      have hPs := msize (s := (img.length : Int)) (c := (ch : Int)) (v := .slice (some ⟨D, 0, none⟩) N N) (dig_len img)
      have HPS := Lib.hid hPs
      clear hPs
      refine wpAnyH_ready (rs := [9]) (by kernel_rfl) (by simp) (AllReadyH.cons rfl (fun K hK => ?_) AllReadyH.nil)
      try simp only [List.getElem_toArray, List.getElem_cons_zero, List.getElem_cons_succ]
      refine if_wanted (by rfl) ?_
      refine wp_store_row _ (.tmp 7) (.tmp 25) rfl M (mcs (img.length : Int) (ch : Int) (.slice (some ⟨D, 0, none⟩) N N) (Sm.dig img)).toArray rfl rfl 27 _ HM3.out (by rw [HPS.out]; exact info35) (by rw [HPS.out]; rfl) hPa ?_
      have HS0 : Hid (Rst w M D img ch N 0 (v3.setRow M (mcs (img.length : Int) (ch : Int) (.slice (some ⟨D, 0, none⟩) N N) (Sm.dig img)).toArray)) := Lib.hid ⟨HM3.out.row _, by rw [dsTo_zero]; exact HD3.out.rowFar (Ne.symm HNE2.out) _, HZ3.out.rowFar (by omega) _, below_row HB3.out (by omega) _, ⟨hltM, hltD, HNE2.out⟩⟩
      refine hK.out _ _ trivial (fun hHeld => ?_)
      clear hK K
      try simp only [Act.put, List.getElem_toArray, List.getElem_cons_zero, List.getElem_cons_succ, List.setIfInBounds_toArray, List.set_cons_zero, List.set_cons_succ]
      refine wpAnyH_done (by kernel_rfl) ?_ _
      generalize v3.setRow M (mcs (img.length : Int) (ch : Int) (.slice (some ⟨D, 0, none⟩) N N) (Sm.dig img)).toArray = v4 at *
      clear HM3 HD3 HZ3 HB3 hPa hmk
      go_wp2
      go_loopw [8] (fun i wr => ∃ k : Nat, k ≤ N ∧ i = .int .i64 (k : Int) ∧ Hid (Rst w M D img ch N k wr)) (fun i _ => N - (intOf i).toNat)
      case atStart => exact ⟨0, Nat.zero_le _, rfl, HS0⟩
      case round =>
        clear HS0
        obtain ⟨k, hk, rfl, HK⟩ := hrel
        obtain ⟨P, hP⟩ : ∃ P, (mcs (img.length : Int) (ch : Int) (.slice (some ⟨D, 0, none⟩) N N) (Sm.dig img)).toArray = P := ⟨_, rfl⟩
        have HP := Lib.hid hP
        have HMV := HK.out.mv hk (by omega) (by omega)
        have KM := Lib.hid HK.out.m
        rw [hP] at HPS HMV KM
        have HMV := Lib.hid HMV
        have hPs := HPS.out
        by_cases hlt : k < N
        · have hv := part_vals (ds := dsTo img ch N k) (wh := Sm.dig img) HNE.out (dsTo_len img ch hk) hlt
          have hkm := ck_mid img ch k _ rfl (by omega)
          obtain ⟨f, hf⟩ : ∃ f, k * ch = f := ⟨_, rfl⟩
          obtain ⟨t, ht⟩ : ∃ t, min ((k + 1) * ch) img.length = t := ⟨_, rfl⟩
          rw [hf, ht] at hv hkm
          have htl : t ≤ img.length := by rw [← ht]; exact Nat.min_le_right _ _
          have HV := Lib.hid (And.intro hv.1 hv.2.1)
          have hft : f < t := hv.2.2
          have hsl := slice_mid (a := a) (n := img.length) (c := c) (i := f) (j := t) (by omega) (by omega)
          have HTM := txt_mid (i := f) (j := t) HT.out (by omega) htl
          rw [hkm] at HTM
          obtain ⟨A, hslA, HTA⟩ : ∃ A, (∀ w, (Instr.slice 23 (.slice a img.length c) (some (.int .i64 (f : Int))) (some (.int .i64 (t : Int))) none).run Tryd.prog w = .ok (.slice A (t - f) (c - f)) w) ∧ Hid (Txt w (fun b => b < w.heap.size) A (t - f) (c - f) (Mf.ck img ch k)) := ⟨_, hsl, Lib.hid HTM⟩
          clear hP hv hkm hf ht hsl HTM
          go_wp2_with (first
            | ((with_reducible show wpList _ _ _ ((⟨_, Op.load 27 _, _, _, _, _⟩ : Oper) :: _) _ _); refine wpList_load_row rfl _ (.tmp 7) rfl M rfl 27 P (0, 0) _ KM.out Tryd.underlying27 rfl (by rw [hPs]; exact info35) ?_)
            | (go_at_call 22; refine (rpart_any HMV.out (i := (k : Int)) ⟨by omega, by omega⟩).mono ?_; rintro e w5 ⟨rfl, hb5⟩; have HK5 := Lib.hid (HK.out.below hb5); clear hb5; rw [HV.out.1, HV.out.2]))
          have HK6 := Lib.hid (show Rst w M D img ch N k w5.drew from HK5.out.below (Below.refl _ _).drew)
          have x6 : w5.drew.cell? ⟨M, 2, none⟩ = some (.slice (some ⟨D, 0, none⟩) N N) := HK6.out.m.cell 2
          clear HK5
          refine wp_region_held_drew (S := fun w' => w'.cell? ⟨M, 2, none⟩ = some (.slice (some ⟨D, 0, none⟩) N N)) (by kernel_rfl) x6 (fun hHeld => ?_)
          generalize w5.drew = w6 at *
          refine wpAnyH_take (i := 0) (v := .pointer (some ⟨M, 2, none⟩)) rfl (by kernel_rfl) (by kernel_rfl) (by kernel_rfl) (fun _ _ _ h => h) (Or.inl ⟨by rfl, (by intro w hSw; (try dsimp only at hSw); go_simp)⟩) (by assumption) ?_
          try simp only [Act.put, List.getElem_toArray, List.getElem_cons_zero, List.getElem_cons_succ, List.setIfInBounds_toArray, List.set_cons_zero, List.set_cons_succ]
          refine wpAnyH_take (i := 1) (v := .slice (some ⟨D, 0, none⟩) N N) rfl (by kernel_rfl) (by kernel_rfl) (by kernel_rfl) (fun _ _ _ h => h) (Or.inl ⟨by rfl, (by intro w hSw; (try dsimp only at hSw); go_simp)⟩) (by assumption) ?_
          try simp only [Act.put, List.getElem_toArray, List.getElem_cons_zero, List.getElem_cons_succ, List.setIfInBounds_toArray, List.set_cons_zero, List.set_cons_succ]
          refine wpAnyH_take (i := 2) (v := .int .i64 (k : Int)) rfl (by kernel_rfl) (by kernel_rfl) (by kernel_rfl) (fun _ _ _ h => h) (Or.inl ⟨by rfl, (by intro w hSw; (try dsimp only at hSw); go_simp)⟩) (by assumption) ?_
          try simp only [Act.put, List.getElem_toArray, List.getElem_cons_zero, List.getElem_cons_succ, List.setIfInBounds_toArray, List.set_cons_zero, List.set_cons_succ]
          refine wpAnyH_take (i := 3) (v := .int .i64 (k : Int)) rfl (by kernel_rfl) (by kernel_rfl) (by kernel_rfl) (fun _ _ _ h => h) (Or.inl ⟨by rfl, (by intro w hSw; (try dsimp only at hSw); go_simp)⟩) (by assumption) ?_
          try simp only [Act.put, List.getElem_toArray, List.getElem_cons_zero, List.getElem_cons_succ, List.setIfInBounds_toArray, List.set_cons_zero, List.set_cons_succ]
          refine wpAnyH_take (i := 4) (v := .slice a img.length c) rfl (by kernel_rfl) (by kernel_rfl) (by kernel_rfl) (fun _ _ _ h => h) (Or.inl ⟨by rfl, (by intro w hSw; (try dsimp only at hSw); go_simp)⟩) (by assumption) ?_
          try simp only [Act.put, List.getElem_toArray, List.getElem_cons_zero, List.getElem_cons_succ, List.setIfInBounds_toArray, List.set_cons_zero, List.set_cons_succ]
          refine wpAnyH_take (i := 5) (v := .int .i64 (f : Int)) rfl (by kernel_rfl) (by kernel_rfl) (by kernel_rfl) (fun _ _ _ h => h) (Or.inl ⟨by rfl, (by intro w hSw; (try dsimp only at hSw); go_simp)⟩) (by assumption) ?_
          try simp only [Act.put, List.getElem_toArray, List.getElem_cons_zero, List.getElem_cons_succ, List.setIfInBounds_toArray, List.set_cons_zero, List.set_cons_succ]
          refine wpAnyH_take (i := 6) (v := .int .i64 (t : Int)) rfl (by kernel_rfl) (by kernel_rfl) (by kernel_rfl) (fun _ _ _ h => h) (Or.inl ⟨by rfl, (by intro w hSw; (try dsimp only at hSw); go_simp)⟩) (by assumption) ?_
          try simp only [Act.put, List.getElem_toArray, List.getElem_cons_zero, List.getElem_cons_succ, List.setIfInBounds_toArray, List.set_cons_zero, List.set_cons_succ]
          refine wpAnyH_take (i := 7) (v := .slice A (t - f) (c - f)) rfl (by kernel_rfl) (by kernel_rfl) (by kernel_rfl) (fun _ _ _ h => h) (Or.inl ⟨by rfl, (by intro w hSw; (try dsimp only at hSw); go_simp)⟩) (by assumption) ?_
          try simp only [Act.put, List.getElem_toArray, List.getElem_cons_zero, List.getElem_cons_succ, List.setIfInBounds_toArray, List.set_cons_zero, List.set_cons_succ]
          refine wpAnyH_ready (rs := [8]) (by kernel_rfl) (by simp) (AllReadyH.cons rfl (fun K hK => ?_) AllReadyH.nil)
          try simp only [List.getElem_toArray, List.getElem_cons_zero, List.getElem_cons_succ]
          go_simp
          go_at_call 37
          refine (rcdig_any (i := (k : Int)) (HTA.out.below HK6.out.b (fun b _ h => h)) (by omega) (by omega) (by omega)).mono ?_
          rintro e w7 ⟨rfl, hb7⟩
          have HK7 := Lib.hid (HK6.out.below hb7)
          have x7 : w7.cell? ⟨M, 2, none⟩ = some (.slice (some ⟨D, 0, none⟩) N N) := HK7.out.m.cell 2
          clear hb7 HK6 x6
          go_wp2_with fail
          refine hK.out _ _ x7 (fun hHeld => ?_)
          clear hK K
          try simp only [Act.put, List.getElem_toArray, List.getElem_cons_zero, List.getElem_cons_succ, List.setIfInBounds_toArray, List.set_cons_zero, List.set_cons_succ]
          refine wpAnyH_take (i := 9) (v := .pointer (some ⟨D, k * 32, none⟩)) rfl (by kernel_rfl) (by kernel_rfl) (by kernel_rfl) (fun _ _ _ h => h) (Or.inl ⟨by rfl, (by intro w hSw; (try dsimp only at hSw); go_simp)⟩) (by assumption) ?_
          try simp only [Act.put, List.getElem_toArray, List.getElem_cons_zero, List.getElem_cons_succ, List.setIfInBounds_toArray, List.set_cons_zero, List.set_cons_succ]
          refine wpAnyH_ready (rs := [10]) (by kernel_rfl) (by simp) (AllReadyH.cons rfl (fun K hK => ?_) AllReadyH.nil)
          try simp only [List.getElem_toArray, List.getElem_cons_zero, List.getElem_cons_succ]
          refine if_wanted (by rfl) ?_
          refine wp_store_part _ (.tmp 46) (.tmp 45) rfl D (k * 32) (nums (Mf.cdig k (Mf.ck img ch k))) rfl rfl HK7.out.d (by rw [nums_len, (Mf.cdig_ok _ _).1]; exact info32) (nums_one _) (by rw [nums_len, nums_len, (Mf.cdig_ok _ _).1, Mf.flatten_len (dsTo_ok _ _ _ _), dsTo_len _ _ hk]; omega) ?_
          have HS := Lib.hid (HK7.out.stored hlt)
          refine hK.out _ _ (HS.out.m.cell 2) (fun hHeld => ?_)
          clear hK K
          try simp only [Act.put, List.getElem_toArray, List.getElem_cons_zero, List.getElem_cons_succ, List.setIfInBounds_toArray, List.set_cons_zero, List.set_cons_succ]
          refine wpAnyH_done (by kernel_rfl) ?_ _
          generalize w7.setRow D (splice (nums (dsTo img ch N k).flatten) (k * 32) (nums (Mf.cdig k (Mf.ck img ch k)))).toArray = w8 at *
          go_wp2
          exact ⟨⟨k + 1, by omega, by go_num, HS⟩, by simp [intOf]; omega⟩
        · obtain rfl : k = N := by omega
          have hPa := mcs_one (s := (img.length : Int)) (c := (ch : Int)) (v := .slice (some ⟨D, 0, none⟩) k k) (h := Sm.dig img) rfl
          rw [hP] at hPa
          have HZS := zm_size
          clear hP
          go_wp2_with (first
            | ((with_reducible show wpList _ _ _ ((⟨_, Op.load 27 _, _, _, _, _⟩ : Oper) :: _) _ _); refine wpList_load_row rfl _ (.tmp 7) rfl M rfl 27 P (0, 0) _ KM.out Tryd.underlying27 rfl (by rw [hPs]; exact info35) ?_)
            | ((with_reducible show wpList _ _ _ ((⟨_, Op.store 27 _ _, _, _, _, _⟩ : Oper) :: _) _ _); refine wpList_store_row rfl _ (.tmp 4) (.tmp 47) rfl w.heap.size P rfl rfl 27 _ HK.out.z (by rw [hPs]; exact info35) (by rw [HZS, hPs]) hPa ?_))
          refine bodyPost_ret (results_cell_one rfl _ _ _ _ rfl (loadVar35 (HK.out.z.row P) hPs)) rfl ?_
          refine ⟨⟨_, by rw [HBZ.out.2]; rfl, ?_⟩, below_row HK.out.b (Nat.le_refl _) _⟩
          rw [HBZ.out.1]
          have hl := HK.out.lt
          have h1 : Mf.made img ch = ⟨img.length, ch, dsTo img ch k k, Sm.dig img⟩ := by
            rw [dsTo_all]
            show (⟨img.length, ch, Mf.digsTo img ((ch : Int)).toNat (Mf.cnt img.length ch), Sm.dig img⟩ : Mf.Man) = _
            rw [HNE.out, Int.toNat_natCast]
          rw [h1]
          exact (HMV.out.keep (w' := wr.setRow w.heap.size P) (by simp [World.setRow]) (fun b _ hb => setRow_other wr w.heap.size b P (by omega))).weak (fun b _ hb => by show w.heap.size ≤ b; omega)
    · skip
      try simp only [List.getElem_toArray, List.getElem_cons_zero, List.getElem_cons_succ]
      go_simp
      rw [zeroM, show (mcs 0 0 (.slice none 0 0) (zs 32)).toArray = zm from rfl]
      refine hK.out _ _ trivial (fun hHeld => ?_)
      clear hK K
      try simp only [Act.put, List.getElem_toArray, List.getElem_cons_zero, List.getElem_cons_succ, List.setIfInBounds_toArray, List.set_cons_zero, List.set_cons_succ]
      have hb := below_alloc v1 (.cells zm 27)
      have hw := Whole.new v1 27 zm
      have hs := size_alloc v1 (.cells zm 27)
      generalize v1.alloc (.cells zm 27) = v2 at *
      have HB2 := Lib.hid (HB1.out.trans (hb.mono (Nat.le_of_lt hl1)))
      have HZ2 := Lib.hid (HZ1.out.below hb hl1)
      have hl2 : w.heap.size < v2.heap.size := HZ2.out.lt
      generalize v1.heap.size = M at *
      have HM2 := Lib.hid hw
      have hltM : w.heap.size < M := hl1
      clear hb hw hs
      clear HB1 HZ1
      refine wpAnyH_ready (rs := [4]) (by kernel_rfl) (by simp) (AllReadyH.cons rfl (fun K hK => ?_) AllReadyH.nil)
      try simp only [List.getElem_toArray, List.getElem_cons_zero, List.getElem_cons_succ]
      go_simp
      refine hK.out _ _ trivial (fun hHeld => ?_)
      clear hK K
      try simp only [Act.put, List.getElem_toArray, List.getElem_cons_zero, List.getElem_cons_succ, List.setIfInBounds_toArray, List.set_cons_zero, List.set_cons_succ]
      have hb := below_alloc v2 (.cells (nums (zs (N * 32))).toArray 25)
      have hw := Whole.new v2 25 (nums (zs (N * 32))).toArray
      have hs := size_alloc v2 (.cells (nums (zs (N * 32))).toArray 25)
      have hne : M < v2.heap.size := HM2.out.lt
      generalize v2.alloc (.cells (nums (zs (N * 32))).toArray 25) = v3 at *
      have HB3 := Lib.hid (HB2.out.trans (hb.mono (Nat.le_of_lt hl2)))
      have HZ3 := Lib.hid (HZ2.out.below hb hl2)
      have hl3 : w.heap.size < v3.heap.size := HZ3.out.lt
      have HM3 := Lib.hid (HM2.out.below hb HM2.out.lt)
      generalize v2.heap.size = D at *
      have HD3 := Lib.hid hw
      have hltD : w.heap.size < D := hl2
      clear hb hw hs
      clear HB2 HZ2 HM2
      have HNE2 : Hid (M ≠ D) := Lib.hid (by omega)
      refine wpAnyH_take (i := 7) (v := .agg (mcs (img.length : Int) (ch : Int) (.slice (some ⟨D, 0, none⟩) N N) (Sm.dig img)).toArray) rfl (by kernel_rfl) (by kernel_rfl) (by kernel_rfl) (fun _ _ _ h => h) (yields_man (by rfl) [(0, .tmp 19), (1, .tmp 20), (2, .tmp 22), (3, .tmp 24)] rfl [(0, .int .i64 (img.length : Int)), (1, .int .i64 (ch : Int)), (2, .slice (some ⟨D, 0, none⟩) N N), (3, .agg (nums (Sm.dig img)).toArray)] rfl _ (built_all _ _ _ _ _ _ (dig_len img))) (by assumption) ?_
      try simp only [Act.put, List.getElem_toArray, List.getElem_cons_zero, List.getElem_cons_succ, List.setIfInBounds_toArray, List.set_cons_zero, List.set_cons_succ]
      have hPa := mcs_one (s := (img.length : Int)) (c := (ch : Int)) (v := .slice (some ⟨D, 0, none⟩) N N) (h := Sm.dig img) rfl
      have hPs := msize (s := (img.length : Int)) (c := (ch : Int)) (v := .slice (some ⟨D, 0, none⟩) N N) (dig_len img)
      have HPS := Lib.hid hPs
      clear hPs
      refine wpAnyH_ready (rs := [9]) (by kernel_rfl) (by simp) (AllReadyH.cons rfl (fun K hK => ?_) AllReadyH.nil)
      try simp only [List.getElem_toArray, List.getElem_cons_zero, List.getElem_cons_succ]
      refine if_wanted (by rfl) ?_
      refine wp_store_row _ (.tmp 7) (.tmp 25) rfl M (mcs (img.length : Int) (ch : Int) (.slice (some ⟨D, 0, none⟩) N N) (Sm.dig img)).toArray rfl rfl 27 _ HM3.out (by rw [HPS.out]; exact info35) (by rw [HPS.out]; rfl) hPa ?_
      have HS0 : Hid (Rst w M D img ch N 0 (v3.setRow M (mcs (img.length : Int) (ch : Int) (.slice (some ⟨D, 0, none⟩) N N) (Sm.dig img)).toArray)) := Lib.hid ⟨HM3.out.row _, by rw [dsTo_zero]; exact HD3.out.rowFar (Ne.symm HNE2.out) _, HZ3.out.rowFar (by omega) _, below_row HB3.out (by omega) _, ⟨hltM, hltD, HNE2.out⟩⟩
      refine hK.out _ _ trivial (fun hHeld => ?_)
      clear hK K
      try simp only [Act.put, List.getElem_toArray, List.getElem_cons_zero, List.getElem_cons_succ, List.setIfInBounds_toArray, List.set_cons_zero, List.set_cons_succ]
      refine wpAnyH_done (by kernel_rfl) ?_ _
      generalize v3.setRow M (mcs (img.length : Int) (ch : Int) (.slice (some ⟨D, 0, none⟩) N N) (Sm.dig img)).toArray = v4 at *
      clear HM3 HD3 HZ3 HB3 hPa hmk
      go_wp2
      go_loopw [8] (fun i wr => ∃ k : Nat, k ≤ N ∧ i = .int .i64 (k : Int) ∧ Hid (Rst w M D img ch N k wr)) (fun i _ => N - (intOf i).toNat)
      case atStart => exact ⟨0, Nat.zero_le _, rfl, HS0⟩
      case round =>
        clear HS0
        obtain ⟨k, hk, rfl, HK⟩ := hrel
        obtain ⟨P, hP⟩ : ∃ P, (mcs (img.length : Int) (ch : Int) (.slice (some ⟨D, 0, none⟩) N N) (Sm.dig img)).toArray = P := ⟨_, rfl⟩
        have HP := Lib.hid hP
        have HMV := HK.out.mv hk (by omega) (by omega)
        have KM := Lib.hid HK.out.m
        rw [hP] at HPS HMV KM
        have HMV := Lib.hid HMV
        have hPs := HPS.out
        by_cases hlt : k < N
        · have hv := part_vals (ds := dsTo img ch N k) (wh := Sm.dig img) HNE.out (dsTo_len img ch hk) hlt
          have hkm := ck_mid img ch k _ rfl (by omega)
          obtain ⟨f, hf⟩ : ∃ f, k * ch = f := ⟨_, rfl⟩
          obtain ⟨t, ht⟩ : ∃ t, min ((k + 1) * ch) img.length = t := ⟨_, rfl⟩
          rw [hf, ht] at hv hkm
          have htl : t ≤ img.length := by rw [← ht]; exact Nat.min_le_right _ _
          have HV := Lib.hid (And.intro hv.1 hv.2.1)
          have hft : f < t := hv.2.2
          have hsl := slice_mid (a := a) (n := img.length) (c := c) (i := f) (j := t) (by omega) (by omega)
          have HTM := txt_mid (i := f) (j := t) HT.out (by omega) htl
          rw [hkm] at HTM
          obtain ⟨A, hslA, HTA⟩ : ∃ A, (∀ w, (Instr.slice 23 (.slice a img.length c) (some (.int .i64 (f : Int))) (some (.int .i64 (t : Int))) none).run Tryd.prog w = .ok (.slice A (t - f) (c - f)) w) ∧ Hid (Txt w (fun b => b < w.heap.size) A (t - f) (c - f) (Mf.ck img ch k)) := ⟨_, hsl, Lib.hid HTM⟩
          clear hP hv hkm hf ht hsl HTM
          go_wp2_with (first
            | ((with_reducible show wpList _ _ _ ((⟨_, Op.load 27 _, _, _, _, _⟩ : Oper) :: _) _ _); refine wpList_load_row rfl _ (.tmp 7) rfl M rfl 27 P (0, 0) _ KM.out Tryd.underlying27 rfl (by rw [hPs]; exact info35) ?_)
            | (go_at_call 22; refine (rpart_any HMV.out (i := (k : Int)) ⟨by omega, by omega⟩).mono ?_; rintro e w5 ⟨rfl, hb5⟩; have HK5 := Lib.hid (HK.out.below hb5); clear hb5; rw [HV.out.1, HV.out.2]))
          have HK6 := Lib.hid (show Rst w M D img ch N k w5.drew from HK5.out.below (Below.refl _ _).drew)
          have x6 : w5.drew.cell? ⟨M, 2, none⟩ = some (.slice (some ⟨D, 0, none⟩) N N) := HK6.out.m.cell 2
          clear HK5
          refine wp_region_held_drew (S := fun w' => w'.cell? ⟨M, 2, none⟩ = some (.slice (some ⟨D, 0, none⟩) N N)) (by kernel_rfl) x6 (fun hHeld => ?_)
          generalize w5.drew = w6 at *
          refine wpAnyH_take (i := 0) (v := .pointer (some ⟨M, 2, none⟩)) rfl (by kernel_rfl) (by kernel_rfl) (by kernel_rfl) (fun _ _ _ h => h) (Or.inl ⟨by rfl, (by intro w hSw; (try dsimp only at hSw); go_simp)⟩) (by assumption) ?_
          try simp only [Act.put, List.getElem_toArray, List.getElem_cons_zero, List.getElem_cons_succ, List.setIfInBounds_toArray, List.set_cons_zero, List.set_cons_succ]
          refine wpAnyH_take (i := 1) (v := .slice (some ⟨D, 0, none⟩) N N) rfl (by kernel_rfl) (by kernel_rfl) (by kernel_rfl) (fun _ _ _ h => h) (Or.inl ⟨by rfl, (by intro w hSw; (try dsimp only at hSw); go_simp)⟩) (by assumption) ?_
          try simp only [Act.put, List.getElem_toArray, List.getElem_cons_zero, List.getElem_cons_succ, List.setIfInBounds_toArray, List.set_cons_zero, List.set_cons_succ]
          refine wpAnyH_take (i := 2) (v := .int .i64 (k : Int)) rfl (by kernel_rfl) (by kernel_rfl) (by kernel_rfl) (fun _ _ _ h => h) (Or.inl ⟨by rfl, (by intro w hSw; (try dsimp only at hSw); go_simp)⟩) (by assumption) ?_
          try simp only [Act.put, List.getElem_toArray, List.getElem_cons_zero, List.getElem_cons_succ, List.setIfInBounds_toArray, List.set_cons_zero, List.set_cons_succ]
          refine wpAnyH_take (i := 3) (v := .int .i64 (k : Int)) rfl (by kernel_rfl) (by kernel_rfl) (by kernel_rfl) (fun _ _ _ h => h) (Or.inl ⟨by rfl, (by intro w hSw; (try dsimp only at hSw); go_simp)⟩) (by assumption) ?_
          try simp only [Act.put, List.getElem_toArray, List.getElem_cons_zero, List.getElem_cons_succ, List.setIfInBounds_toArray, List.set_cons_zero, List.set_cons_succ]
          refine wpAnyH_take (i := 4) (v := .slice a img.length c) rfl (by kernel_rfl) (by kernel_rfl) (by kernel_rfl) (fun _ _ _ h => h) (Or.inl ⟨by rfl, (by intro w hSw; (try dsimp only at hSw); go_simp)⟩) (by assumption) ?_
          try simp only [Act.put, List.getElem_toArray, List.getElem_cons_zero, List.getElem_cons_succ, List.setIfInBounds_toArray, List.set_cons_zero, List.set_cons_succ]
          refine wpAnyH_take (i := 5) (v := .int .i64 (f : Int)) rfl (by kernel_rfl) (by kernel_rfl) (by kernel_rfl) (fun _ _ _ h => h) (Or.inl ⟨by rfl, (by intro w hSw; (try dsimp only at hSw); go_simp)⟩) (by assumption) ?_
          try simp only [Act.put, List.getElem_toArray, List.getElem_cons_zero, List.getElem_cons_succ, List.setIfInBounds_toArray, List.set_cons_zero, List.set_cons_succ]
          refine wpAnyH_take (i := 6) (v := .int .i64 (t : Int)) rfl (by kernel_rfl) (by kernel_rfl) (by kernel_rfl) (fun _ _ _ h => h) (Or.inl ⟨by rfl, (by intro w hSw; (try dsimp only at hSw); go_simp)⟩) (by assumption) ?_
          try simp only [Act.put, List.getElem_toArray, List.getElem_cons_zero, List.getElem_cons_succ, List.setIfInBounds_toArray, List.set_cons_zero, List.set_cons_succ]
          refine wpAnyH_take (i := 7) (v := .slice A (t - f) (c - f)) rfl (by kernel_rfl) (by kernel_rfl) (by kernel_rfl) (fun _ _ _ h => h) (Or.inl ⟨by rfl, (by intro w hSw; (try dsimp only at hSw); go_simp)⟩) (by assumption) ?_
          try simp only [Act.put, List.getElem_toArray, List.getElem_cons_zero, List.getElem_cons_succ, List.setIfInBounds_toArray, List.set_cons_zero, List.set_cons_succ]
          refine wpAnyH_ready (rs := [8]) (by kernel_rfl) (by simp) (AllReadyH.cons rfl (fun K hK => ?_) AllReadyH.nil)
          try simp only [List.getElem_toArray, List.getElem_cons_zero, List.getElem_cons_succ]
          go_simp
          go_at_call 37
          refine (rcdig_any (i := (k : Int)) (HTA.out.below HK6.out.b (fun b _ h => h)) (by omega) (by omega) (by omega)).mono ?_
          rintro e w7 ⟨rfl, hb7⟩
          have HK7 := Lib.hid (HK6.out.below hb7)
          have x7 : w7.cell? ⟨M, 2, none⟩ = some (.slice (some ⟨D, 0, none⟩) N N) := HK7.out.m.cell 2
          clear hb7 HK6 x6
          go_wp2_with fail
          refine hK.out _ _ x7 (fun hHeld => ?_)
          clear hK K
          try simp only [Act.put, List.getElem_toArray, List.getElem_cons_zero, List.getElem_cons_succ, List.setIfInBounds_toArray, List.set_cons_zero, List.set_cons_succ]
          refine wpAnyH_take (i := 9) (v := .pointer (some ⟨D, k * 32, none⟩)) rfl (by kernel_rfl) (by kernel_rfl) (by kernel_rfl) (fun _ _ _ h => h) (Or.inl ⟨by rfl, (by intro w hSw; (try dsimp only at hSw); go_simp)⟩) (by assumption) ?_
          try simp only [Act.put, List.getElem_toArray, List.getElem_cons_zero, List.getElem_cons_succ, List.setIfInBounds_toArray, List.set_cons_zero, List.set_cons_succ]
          refine wpAnyH_ready (rs := [10]) (by kernel_rfl) (by simp) (AllReadyH.cons rfl (fun K hK => ?_) AllReadyH.nil)
          try simp only [List.getElem_toArray, List.getElem_cons_zero, List.getElem_cons_succ]
          refine if_wanted (by rfl) ?_
          refine wp_store_part _ (.tmp 46) (.tmp 45) rfl D (k * 32) (nums (Mf.cdig k (Mf.ck img ch k))) rfl rfl HK7.out.d (by rw [nums_len, (Mf.cdig_ok _ _).1]; exact info32) (nums_one _) (by rw [nums_len, nums_len, (Mf.cdig_ok _ _).1, Mf.flatten_len (dsTo_ok _ _ _ _), dsTo_len _ _ hk]; omega) ?_
          have HS := Lib.hid (HK7.out.stored hlt)
          refine hK.out _ _ (HS.out.m.cell 2) (fun hHeld => ?_)
          clear hK K
          try simp only [Act.put, List.getElem_toArray, List.getElem_cons_zero, List.getElem_cons_succ, List.setIfInBounds_toArray, List.set_cons_zero, List.set_cons_succ]
          refine wpAnyH_done (by kernel_rfl) ?_ _
          generalize w7.setRow D (splice (nums (dsTo img ch N k).flatten) (k * 32) (nums (Mf.cdig k (Mf.ck img ch k)))).toArray = w8 at *
          go_wp2
          exact ⟨⟨k + 1, by omega, by go_num, HS⟩, by simp [intOf]; omega⟩
        · obtain rfl : k = N := by omega
          have hPa := mcs_one (s := (img.length : Int)) (c := (ch : Int)) (v := .slice (some ⟨D, 0, none⟩) k k) (h := Sm.dig img) rfl
          rw [hP] at hPa
          have HZS := zm_size
          clear hP
          go_wp2_with (first
            | ((with_reducible show wpList _ _ _ ((⟨_, Op.load 27 _, _, _, _, _⟩ : Oper) :: _) _ _); refine wpList_load_row rfl _ (.tmp 7) rfl M rfl 27 P (0, 0) _ KM.out Tryd.underlying27 rfl (by rw [hPs]; exact info35) ?_)
            | ((with_reducible show wpList _ _ _ ((⟨_, Op.store 27 _ _, _, _, _, _⟩ : Oper) :: _) _ _); refine wpList_store_row rfl _ (.tmp 4) (.tmp 47) rfl w.heap.size P rfl rfl 27 _ HK.out.z (by rw [hPs]; exact info35) (by rw [HZS, hPs]) hPa ?_))
          refine bodyPost_ret (results_cell_one rfl _ _ _ _ rfl (loadVar35 (HK.out.z.row P) hPs)) rfl ?_
          refine ⟨⟨_, by rw [HBZ.out.2]; rfl, ?_⟩, below_row HK.out.b (Nat.le_refl _) _⟩
          rw [HBZ.out.1]
          have hl := HK.out.lt
          have h1 : Mf.made img ch = ⟨img.length, ch, dsTo img ch k k, Sm.dig img⟩ := by
            rw [dsTo_all]
            show (⟨img.length, ch, Mf.digsTo img ((ch : Int)).toNat (Mf.cnt img.length ch), Sm.dig img⟩ : Mf.Man) = _
            rw [HNE.out, Int.toNat_natCast]
          rw [h1]
          exact (HMV.out.keep (w' := wr.setRow w.heap.size P) (by simp [World.setRow]) (fun b _ hb => setRow_other wr w.heap.size b P (by omega))).weak (fun b _ hb => by show w.heap.size ≤ b; omega)
  · skip
    try simp only [List.getElem_toArray, List.getElem_cons_zero, List.getElem_cons_succ]
    go_simp
    rw [zeroM, show (mcs 0 0 (.slice none 0 0) (zs 32)).toArray = zm from rfl]
    refine hK.out _ _ trivial (fun hHeld => ?_)
    clear hK K
    try simp only [Act.put, List.getElem_toArray, List.getElem_cons_zero, List.getElem_cons_succ, List.setIfInBounds_toArray, List.set_cons_zero, List.set_cons_succ]
    have hb := below_alloc v0 (.cells zm 27)
    have hw := Whole.new v0 27 zm
    have hs := size_alloc v0 (.cells zm 27)
    generalize v0.alloc (.cells zm 27) = v1 at *
    have HB1 := Lib.hid (HB0.out.trans (hb.mono (Nat.le_of_lt hl0)))
    have HZ1 := Lib.hid (HZ0.out.below hb hl0)
    have hl1 : w.heap.size < v1.heap.size := HZ1.out.lt
    generalize v0.heap.size = M at *
    have HM1 := Lib.hid hw
    have hltM : w.heap.size < M := hl0
    clear hb hw hs
    clear HB0 HZ0
    refine wpAnyH_ready (rs := [4, 6]) (by kernel_rfl) (by simp) (AllReadyH.cons rfl (fun K hK => ?_) (AllReadyH.cons rfl (fun K hK => ?_) AllReadyH.nil))
    · skip
      try simp only [List.getElem_toArray, List.getElem_cons_zero, List.getElem_cons_succ]
      go_simp
      refine hK.out _ _ trivial (fun hHeld => ?_)
      clear hK K
      try simp only [Act.put, List.getElem_toArray, List.getElem_cons_zero, List.getElem_cons_succ, List.setIfInBounds_toArray, List.set_cons_zero, List.set_cons_succ]
      have hb := below_alloc v1 (.cells (nums (zs (N * 32))).toArray 25)
      have hw := Whole.new v1 25 (nums (zs (N * 32))).toArray
      have hs := size_alloc v1 (.cells (nums (zs (N * 32))).toArray 25)
      have hne : M < v1.heap.size := HM1.out.lt
      generalize v1.alloc (.cells (nums (zs (N * 32))).toArray 25) = v2 at *
      have HB2 := Lib.hid (HB1.out.trans (hb.mono (Nat.le_of_lt hl1)))
      have HZ2 := Lib.hid (HZ1.out.below hb hl1)
      have hl2 : w.heap.size < v2.heap.size := HZ2.out.lt
      have HM2 := Lib.hid (HM1.out.below hb HM1.out.lt)
      generalize v1.heap.size = D at *
      have HD2 := Lib.hid hw
      have hltD : w.heap.size < D := hl1
      clear hb hw hs
      clear HB1 HZ1 HM1
      have HNE2 : Hid (M ≠ D) := Lib.hid (by omega)
      refine wpAnyH_ready (rs := [6]) (by kernel_rfl) (by simp) (AllReadyH.cons rfl (fun K hK => ?_) AllReadyH.nil)
      try simp only [List.getElem_toArray, List.getElem_cons_zero, List.getElem_cons_succ]
      go_simp
      go_at_call 36
      refine (rsum_any (HT.out.below HB2.out (fun b _ h => h)) (by omega)).mono ?_
      rintro e v3 ⟨rfl, hb⟩
      have HB3 := Lib.hid (HB2.out.trans (hb.mono (Nat.le_of_lt hl2)))
      have HZ3 := Lib.hid (HZ2.out.below hb hl2)
      have hl3 : w.heap.size < v3.heap.size := HZ3.out.lt
      have HD3 := Lib.hid (HD2.out.below hb HD2.out.lt)
      have HM3 := Lib.hid (HM2.out.below hb HM2.out.lt)
      clear hb
      clear HB2 HZ2 HD2 HM2
      go_wp2_with fail
      refine hK.out _ _ trivial (fun hHeld => ?_)
      clear hK K
      try simp only [Act.put, List.getElem_toArray, List.getElem_cons_zero, List.getElem_cons_succ, List.setIfInBounds_toArray, List.set_cons_zero, List.set_cons_succ]
      refine wpAnyH_take (i := 7) (v := .agg (mcs (img.length : Int) (ch : Int) (.slice (some ⟨D, 0, none⟩) N N) (Sm.dig img)).toArray) rfl (by kernel_rfl) (by kernel_rfl) (by kernel_rfl) (fun _ _ _ h => h) (yields_man (by rfl) [(0, .tmp 19), (1, .tmp 20), (2, .tmp 22), (3, .tmp 24)] rfl [(0, .int .i64 (img.length : Int)), (1, .int .i64 (ch : Int)), (2, .slice (some ⟨D, 0, none⟩) N N), (3, .agg (nums (Sm.dig img)).toArray)] rfl _ (built_all _ _ _ _ _ _ (dig_len img))) (by assumption) ?_
      try simp only [Act.put, List.getElem_toArray, List.getElem_cons_zero, List.getElem_cons_succ, List.setIfInBounds_toArray, List.set_cons_zero, List.set_cons_succ]
      have hPa := mcs_one (s := (img.length : Int)) (c := (ch : Int)) (v := .slice (some ⟨D, 0, none⟩) N N) (h := Sm.dig img) rfl
      have hPs := msize (s := (img.length : Int)) (c := (ch : Int)) (v := .slice (some ⟨D, 0, none⟩) N N) (dig_len img)
      have HPS := Lib.hid hPs
      clear hPs
      refine wpAnyH_ready (rs := [9]) (by kernel_rfl) (by simp) (AllReadyH.cons rfl (fun K hK => ?_) AllReadyH.nil)
      try simp only [List.getElem_toArray, List.getElem_cons_zero, List.getElem_cons_succ]
      refine if_wanted (by rfl) ?_
      refine wp_store_row _ (.tmp 7) (.tmp 25) rfl M (mcs (img.length : Int) (ch : Int) (.slice (some ⟨D, 0, none⟩) N N) (Sm.dig img)).toArray rfl rfl 27 _ HM3.out (by rw [HPS.out]; exact info35) (by rw [HPS.out]; rfl) hPa ?_
      have HS0 : Hid (Rst w M D img ch N 0 (v3.setRow M (mcs (img.length : Int) (ch : Int) (.slice (some ⟨D, 0, none⟩) N N) (Sm.dig img)).toArray)) := Lib.hid ⟨HM3.out.row _, by rw [dsTo_zero]; exact HD3.out.rowFar (Ne.symm HNE2.out) _, HZ3.out.rowFar (by omega) _, below_row HB3.out (by omega) _, ⟨hltM, hltD, HNE2.out⟩⟩
      refine hK.out _ _ trivial (fun hHeld => ?_)
      clear hK K
      try simp only [Act.put, List.getElem_toArray, List.getElem_cons_zero, List.getElem_cons_succ, List.setIfInBounds_toArray, List.set_cons_zero, List.set_cons_succ]
      refine wpAnyH_done (by kernel_rfl) ?_ _
      generalize v3.setRow M (mcs (img.length : Int) (ch : Int) (.slice (some ⟨D, 0, none⟩) N N) (Sm.dig img)).toArray = v4 at *
      clear HM3 HD3 HZ3 HB3 hPa hmk
      go_wp2
      go_loopw [8] (fun i wr => ∃ k : Nat, k ≤ N ∧ i = .int .i64 (k : Int) ∧ Hid (Rst w M D img ch N k wr)) (fun i _ => N - (intOf i).toNat)
      case atStart => exact ⟨0, Nat.zero_le _, rfl, HS0⟩
      case round =>
        clear HS0
        obtain ⟨k, hk, rfl, HK⟩ := hrel
        obtain ⟨P, hP⟩ : ∃ P, (mcs (img.length : Int) (ch : Int) (.slice (some ⟨D, 0, none⟩) N N) (Sm.dig img)).toArray = P := ⟨_, rfl⟩
        have HP := Lib.hid hP
        have HMV := HK.out.mv hk (by omega) (by omega)
        have KM := Lib.hid HK.out.m
        rw [hP] at HPS HMV KM
        have HMV := Lib.hid HMV
        have hPs := HPS.out
        by_cases hlt : k < N
        · have hv := part_vals (ds := dsTo img ch N k) (wh := Sm.dig img) HNE.out (dsTo_len img ch hk) hlt
          have hkm := ck_mid img ch k _ rfl (by omega)
          obtain ⟨f, hf⟩ : ∃ f, k * ch = f := ⟨_, rfl⟩
          obtain ⟨t, ht⟩ : ∃ t, min ((k + 1) * ch) img.length = t := ⟨_, rfl⟩
          rw [hf, ht] at hv hkm
          have htl : t ≤ img.length := by rw [← ht]; exact Nat.min_le_right _ _
          have HV := Lib.hid (And.intro hv.1 hv.2.1)
          have hft : f < t := hv.2.2
          have hsl := slice_mid (a := a) (n := img.length) (c := c) (i := f) (j := t) (by omega) (by omega)
          have HTM := txt_mid (i := f) (j := t) HT.out (by omega) htl
          rw [hkm] at HTM
          obtain ⟨A, hslA, HTA⟩ : ∃ A, (∀ w, (Instr.slice 23 (.slice a img.length c) (some (.int .i64 (f : Int))) (some (.int .i64 (t : Int))) none).run Tryd.prog w = .ok (.slice A (t - f) (c - f)) w) ∧ Hid (Txt w (fun b => b < w.heap.size) A (t - f) (c - f) (Mf.ck img ch k)) := ⟨_, hsl, Lib.hid HTM⟩
          clear hP hv hkm hf ht hsl HTM
          go_wp2_with (first
            | ((with_reducible show wpList _ _ _ ((⟨_, Op.load 27 _, _, _, _, _⟩ : Oper) :: _) _ _); refine wpList_load_row rfl _ (.tmp 7) rfl M rfl 27 P (0, 0) _ KM.out Tryd.underlying27 rfl (by rw [hPs]; exact info35) ?_)
            | (go_at_call 22; refine (rpart_any HMV.out (i := (k : Int)) ⟨by omega, by omega⟩).mono ?_; rintro e w5 ⟨rfl, hb5⟩; have HK5 := Lib.hid (HK.out.below hb5); clear hb5; rw [HV.out.1, HV.out.2]))
          have HK6 := Lib.hid (show Rst w M D img ch N k w5.drew from HK5.out.below (Below.refl _ _).drew)
          have x6 : w5.drew.cell? ⟨M, 2, none⟩ = some (.slice (some ⟨D, 0, none⟩) N N) := HK6.out.m.cell 2
          clear HK5
          refine wp_region_held_drew (S := fun w' => w'.cell? ⟨M, 2, none⟩ = some (.slice (some ⟨D, 0, none⟩) N N)) (by kernel_rfl) x6 (fun hHeld => ?_)
          generalize w5.drew = w6 at *
          refine wpAnyH_take (i := 0) (v := .pointer (some ⟨M, 2, none⟩)) rfl (by kernel_rfl) (by kernel_rfl) (by kernel_rfl) (fun _ _ _ h => h) (Or.inl ⟨by rfl, (by intro w hSw; (try dsimp only at hSw); go_simp)⟩) (by assumption) ?_
          try simp only [Act.put, List.getElem_toArray, List.getElem_cons_zero, List.getElem_cons_succ, List.setIfInBounds_toArray, List.set_cons_zero, List.set_cons_succ]
          refine wpAnyH_take (i := 1) (v := .slice (some ⟨D, 0, none⟩) N N) rfl (by kernel_rfl) (by kernel_rfl) (by kernel_rfl) (fun _ _ _ h => h) (Or.inl ⟨by rfl, (by intro w hSw; (try dsimp only at hSw); go_simp)⟩) (by assumption) ?_
          try simp only [Act.put, List.getElem_toArray, List.getElem_cons_zero, List.getElem_cons_succ, List.setIfInBounds_toArray, List.set_cons_zero, List.set_cons_succ]
          refine wpAnyH_take (i := 2) (v := .int .i64 (k : Int)) rfl (by kernel_rfl) (by kernel_rfl) (by kernel_rfl) (fun _ _ _ h => h) (Or.inl ⟨by rfl, (by intro w hSw; (try dsimp only at hSw); go_simp)⟩) (by assumption) ?_
          try simp only [Act.put, List.getElem_toArray, List.getElem_cons_zero, List.getElem_cons_succ, List.setIfInBounds_toArray, List.set_cons_zero, List.set_cons_succ]
          refine wpAnyH_take (i := 3) (v := .int .i64 (k : Int)) rfl (by kernel_rfl) (by kernel_rfl) (by kernel_rfl) (fun _ _ _ h => h) (Or.inl ⟨by rfl, (by intro w hSw; (try dsimp only at hSw); go_simp)⟩) (by assumption) ?_
          try simp only [Act.put, List.getElem_toArray, List.getElem_cons_zero, List.getElem_cons_succ, List.setIfInBounds_toArray, List.set_cons_zero, List.set_cons_succ]
          refine wpAnyH_take (i := 4) (v := .slice a img.length c) rfl (by kernel_rfl) (by kernel_rfl) (by kernel_rfl) (fun _ _ _ h => h) (Or.inl ⟨by rfl, (by intro w hSw; (try dsimp only at hSw); go_simp)⟩) (by assumption) ?_
          try simp only [Act.put, List.getElem_toArray, List.getElem_cons_zero, List.getElem_cons_succ, List.setIfInBounds_toArray, List.set_cons_zero, List.set_cons_succ]
          refine wpAnyH_take (i := 5) (v := .int .i64 (f : Int)) rfl (by kernel_rfl) (by kernel_rfl) (by kernel_rfl) (fun _ _ _ h => h) (Or.inl ⟨by rfl, (by intro w hSw; (try dsimp only at hSw); go_simp)⟩) (by assumption) ?_
          try simp only [Act.put, List.getElem_toArray, List.getElem_cons_zero, List.getElem_cons_succ, List.setIfInBounds_toArray, List.set_cons_zero, List.set_cons_succ]
          refine wpAnyH_take (i := 6) (v := .int .i64 (t : Int)) rfl (by kernel_rfl) (by kernel_rfl) (by kernel_rfl) (fun _ _ _ h => h) (Or.inl ⟨by rfl, (by intro w hSw; (try dsimp only at hSw); go_simp)⟩) (by assumption) ?_
          try simp only [Act.put, List.getElem_toArray, List.getElem_cons_zero, List.getElem_cons_succ, List.setIfInBounds_toArray, List.set_cons_zero, List.set_cons_succ]
          refine wpAnyH_take (i := 7) (v := .slice A (t - f) (c - f)) rfl (by kernel_rfl) (by kernel_rfl) (by kernel_rfl) (fun _ _ _ h => h) (Or.inl ⟨by rfl, (by intro w hSw; (try dsimp only at hSw); go_simp)⟩) (by assumption) ?_
          try simp only [Act.put, List.getElem_toArray, List.getElem_cons_zero, List.getElem_cons_succ, List.setIfInBounds_toArray, List.set_cons_zero, List.set_cons_succ]
          refine wpAnyH_ready (rs := [8]) (by kernel_rfl) (by simp) (AllReadyH.cons rfl (fun K hK => ?_) AllReadyH.nil)
          try simp only [List.getElem_toArray, List.getElem_cons_zero, List.getElem_cons_succ]
          go_simp
          go_at_call 37
          refine (rcdig_any (i := (k : Int)) (HTA.out.below HK6.out.b (fun b _ h => h)) (by omega) (by omega) (by omega)).mono ?_
          rintro e w7 ⟨rfl, hb7⟩
          have HK7 := Lib.hid (HK6.out.below hb7)
          have x7 : w7.cell? ⟨M, 2, none⟩ = some (.slice (some ⟨D, 0, none⟩) N N) := HK7.out.m.cell 2
          clear hb7 HK6 x6
          go_wp2_with fail
          refine hK.out _ _ x7 (fun hHeld => ?_)
          clear hK K
          try simp only [Act.put, List.getElem_toArray, List.getElem_cons_zero, List.getElem_cons_succ, List.setIfInBounds_toArray, List.set_cons_zero, List.set_cons_succ]
          refine wpAnyH_take (i := 9) (v := .pointer (some ⟨D, k * 32, none⟩)) rfl (by kernel_rfl) (by kernel_rfl) (by kernel_rfl) (fun _ _ _ h => h) (Or.inl ⟨by rfl, (by intro w hSw; (try dsimp only at hSw); go_simp)⟩) (by assumption) ?_
          try simp only [Act.put, List.getElem_toArray, List.getElem_cons_zero, List.getElem_cons_succ, List.setIfInBounds_toArray, List.set_cons_zero, List.set_cons_succ]
          refine wpAnyH_ready (rs := [10]) (by kernel_rfl) (by simp) (AllReadyH.cons rfl (fun K hK => ?_) AllReadyH.nil)
          try simp only [List.getElem_toArray, List.getElem_cons_zero, List.getElem_cons_succ]
          refine if_wanted (by rfl) ?_
          refine wp_store_part _ (.tmp 46) (.tmp 45) rfl D (k * 32) (nums (Mf.cdig k (Mf.ck img ch k))) rfl rfl HK7.out.d (by rw [nums_len, (Mf.cdig_ok _ _).1]; exact info32) (nums_one _) (by rw [nums_len, nums_len, (Mf.cdig_ok _ _).1, Mf.flatten_len (dsTo_ok _ _ _ _), dsTo_len _ _ hk]; omega) ?_
          have HS := Lib.hid (HK7.out.stored hlt)
          refine hK.out _ _ (HS.out.m.cell 2) (fun hHeld => ?_)
          clear hK K
          try simp only [Act.put, List.getElem_toArray, List.getElem_cons_zero, List.getElem_cons_succ, List.setIfInBounds_toArray, List.set_cons_zero, List.set_cons_succ]
          refine wpAnyH_done (by kernel_rfl) ?_ _
          generalize w7.setRow D (splice (nums (dsTo img ch N k).flatten) (k * 32) (nums (Mf.cdig k (Mf.ck img ch k)))).toArray = w8 at *
          go_wp2
          exact ⟨⟨k + 1, by omega, by go_num, HS⟩, by simp [intOf]; omega⟩
        · obtain rfl : k = N := by omega
          have hPa := mcs_one (s := (img.length : Int)) (c := (ch : Int)) (v := .slice (some ⟨D, 0, none⟩) k k) (h := Sm.dig img) rfl
          rw [hP] at hPa
          have HZS := zm_size
          clear hP
          go_wp2_with (first
            | ((with_reducible show wpList _ _ _ ((⟨_, Op.load 27 _, _, _, _, _⟩ : Oper) :: _) _ _); refine wpList_load_row rfl _ (.tmp 7) rfl M rfl 27 P (0, 0) _ KM.out Tryd.underlying27 rfl (by rw [hPs]; exact info35) ?_)
            | ((with_reducible show wpList _ _ _ ((⟨_, Op.store 27 _ _, _, _, _, _⟩ : Oper) :: _) _ _); refine wpList_store_row rfl _ (.tmp 4) (.tmp 47) rfl w.heap.size P rfl rfl 27 _ HK.out.z (by rw [hPs]; exact info35) (by rw [HZS, hPs]) hPa ?_))
          refine bodyPost_ret (results_cell_one rfl _ _ _ _ rfl (loadVar35 (HK.out.z.row P) hPs)) rfl ?_
          refine ⟨⟨_, by rw [HBZ.out.2]; rfl, ?_⟩, below_row HK.out.b (Nat.le_refl _) _⟩
          rw [HBZ.out.1]
          have hl := HK.out.lt
          have h1 : Mf.made img ch = ⟨img.length, ch, dsTo img ch k k, Sm.dig img⟩ := by
            rw [dsTo_all]
            show (⟨img.length, ch, Mf.digsTo img ((ch : Int)).toNat (Mf.cnt img.length ch), Sm.dig img⟩ : Mf.Man) = _
            rw [HNE.out, Int.toNat_natCast]
          rw [h1]
          exact (HMV.out.keep (w' := wr.setRow w.heap.size P) (by simp [World.setRow]) (fun b _ hb => setRow_other wr w.heap.size b P (by omega))).weak (fun b _ hb => by show w.heap.size ≤ b; omega)
    · skip
      try simp only [List.getElem_toArray, List.getElem_cons_zero, List.getElem_cons_succ]
      go_simp
      go_at_call 36
      refine (rsum_any (HT.out.below HB1.out (fun b _ h => h)) (by omega)).mono ?_
      rintro e v2 ⟨rfl, hb⟩
      have HB2 := Lib.hid (HB1.out.trans (hb.mono (Nat.le_of_lt hl1)))
      have HZ2 := Lib.hid (HZ1.out.below hb hl1)
      have hl2 : w.heap.size < v2.heap.size := HZ2.out.lt
      have HM2 := Lib.hid (HM1.out.below hb HM1.out.lt)
      clear hb
      clear HB1 HZ1 HM1
      go_wp2_with fail
      refine hK.out _ _ trivial (fun hHeld => ?_)
      clear hK K
      try simp only [Act.put, List.getElem_toArray, List.getElem_cons_zero, List.getElem_cons_succ, List.setIfInBounds_toArray, List.set_cons_zero, List.set_cons_succ]
      refine wpAnyH_ready (rs := [4]) (by kernel_rfl) (by simp) (AllReadyH.cons rfl (fun K hK => ?_) AllReadyH.nil)
      try simp only [List.getElem_toArray, List.getElem_cons_zero, List.getElem_cons_succ]
      go_simp
      refine hK.out _ _ trivial (fun hHeld => ?_)
      clear hK K
      try simp only [Act.put, List.getElem_toArray, List.getElem_cons_zero, List.getElem_cons_succ, List.setIfInBounds_toArray, List.set_cons_zero, List.set_cons_succ]
      have hb := below_alloc v2 (.cells (nums (zs (N * 32))).toArray 25)
      have hw := Whole.new v2 25 (nums (zs (N * 32))).toArray
      have hs := size_alloc v2 (.cells (nums (zs (N * 32))).toArray 25)
      have hne : M < v2.heap.size := HM2.out.lt
      generalize v2.alloc (.cells (nums (zs (N * 32))).toArray 25) = v3 at *
      have HB3 := Lib.hid (HB2.out.trans (hb.mono (Nat.le_of_lt hl2)))
      have HZ3 := Lib.hid (HZ2.out.below hb hl2)
      have hl3 : w.heap.size < v3.heap.size := HZ3.out.lt
      have HM3 := Lib.hid (HM2.out.below hb HM2.out.lt)
      generalize v2.heap.size = D at *
      have HD3 := Lib.hid hw
      have hltD : w.heap.size < D := hl2
      clear hb hw hs
      clear HB2 HZ2 HM2
      have HNE2 : Hid (M ≠ D) := Lib.hid (by omega)
      refine wpAnyH_take (i := 7) (v := .agg (mcs (img.length : Int) (ch : Int) (.slice (some ⟨D, 0, none⟩) N N) (Sm.dig img)).toArray) rfl (by kernel_rfl) (by kernel_rfl) (by kernel_rfl) (fun _ _ _ h => h) (yields_man (by rfl) [(0, .tmp 19), (1, .tmp 20), (2, .tmp 22), (3, .tmp 24)] rfl [(0, .int .i64 (img.length : Int)), (1, .int .i64 (ch : Int)), (2, .slice (some ⟨D, 0, none⟩) N N), (3, .agg (nums (Sm.dig img)).toArray)] rfl _ (built_all _ _ _ _ _ _ (dig_len img))) (by assumption) ?_
      try simp only [Act.put, List.getElem_toArray, List.getElem_cons_zero, List.getElem_cons_succ, List.setIfInBounds_toArray, List.set_cons_zero, List.set_cons_succ]
      have hPa := mcs_one (s := (img.length : Int)) (c := (ch : Int)) (v := .slice (some ⟨D, 0, none⟩) N N) (h := Sm.dig img) rfl
      have hPs := msize (s := (img.length : Int)) (c := (ch : Int)) (v := .slice (some ⟨D, 0, none⟩) N N) (dig_len img)
      have HPS := Lib.hid hPs
      clear hPs
      refine wpAnyH_ready (rs := [9]) (by kernel_rfl) (by simp) (AllReadyH.cons rfl (fun K hK => ?_) AllReadyH.nil)
      try simp only [List.getElem_toArray, List.getElem_cons_zero, List.getElem_cons_succ]
      refine if_wanted (by rfl) ?_
      refine wp_store_row _ (.tmp 7) (.tmp 25) rfl M (mcs (img.length : Int) (ch : Int) (.slice (some ⟨D, 0, none⟩) N N) (Sm.dig img)).toArray rfl rfl 27 _ HM3.out (by rw [HPS.out]; exact info35) (by rw [HPS.out]; rfl) hPa ?_
      have HS0 : Hid (Rst w M D img ch N 0 (v3.setRow M (mcs (img.length : Int) (ch : Int) (.slice (some ⟨D, 0, none⟩) N N) (Sm.dig img)).toArray)) := Lib.hid ⟨HM3.out.row _, by rw [dsTo_zero]; exact HD3.out.rowFar (Ne.symm HNE2.out) _, HZ3.out.rowFar (by omega) _, below_row HB3.out (by omega) _, ⟨hltM, hltD, HNE2.out⟩⟩
      refine hK.out _ _ trivial (fun hHeld => ?_)
      clear hK K
      try simp only [Act.put, List.getElem_toArray, List.getElem_cons_zero, List.getElem_cons_succ, List.setIfInBounds_toArray, List.set_cons_zero, List.set_cons_succ]
      refine wpAnyH_done (by kernel_rfl) ?_ _
      generalize v3.setRow M (mcs (img.length : Int) (ch : Int) (.slice (some ⟨D, 0, none⟩) N N) (Sm.dig img)).toArray = v4 at *
      clear HM3 HD3 HZ3 HB3 hPa hmk
      go_wp2
      go_loopw [8] (fun i wr => ∃ k : Nat, k ≤ N ∧ i = .int .i64 (k : Int) ∧ Hid (Rst w M D img ch N k wr)) (fun i _ => N - (intOf i).toNat)
      case atStart => exact ⟨0, Nat.zero_le _, rfl, HS0⟩
      case round =>
        clear HS0
        obtain ⟨k, hk, rfl, HK⟩ := hrel
        obtain ⟨P, hP⟩ : ∃ P, (mcs (img.length : Int) (ch : Int) (.slice (some ⟨D, 0, none⟩) N N) (Sm.dig img)).toArray = P := ⟨_, rfl⟩
        have HP := Lib.hid hP
        have HMV := HK.out.mv hk (by omega) (by omega)
        have KM := Lib.hid HK.out.m
        rw [hP] at HPS HMV KM
        have HMV := Lib.hid HMV
        have hPs := HPS.out
        by_cases hlt : k < N
        · have hv := part_vals (ds := dsTo img ch N k) (wh := Sm.dig img) HNE.out (dsTo_len img ch hk) hlt
          have hkm := ck_mid img ch k _ rfl (by omega)
          obtain ⟨f, hf⟩ : ∃ f, k * ch = f := ⟨_, rfl⟩
          obtain ⟨t, ht⟩ : ∃ t, min ((k + 1) * ch) img.length = t := ⟨_, rfl⟩
          rw [hf, ht] at hv hkm
          have htl : t ≤ img.length := by rw [← ht]; exact Nat.min_le_right _ _
          have HV := Lib.hid (And.intro hv.1 hv.2.1)
          have hft : f < t := hv.2.2
          have hsl := slice_mid (a := a) (n := img.length) (c := c) (i := f) (j := t) (by omega) (by omega)
          have HTM := txt_mid (i := f) (j := t) HT.out (by omega) htl
          rw [hkm] at HTM
          obtain ⟨A, hslA, HTA⟩ : ∃ A, (∀ w, (Instr.slice 23 (.slice a img.length c) (some (.int .i64 (f : Int))) (some (.int .i64 (t : Int))) none).run Tryd.prog w = .ok (.slice A (t - f) (c - f)) w) ∧ Hid (Txt w (fun b => b < w.heap.size) A (t - f) (c - f) (Mf.ck img ch k)) := ⟨_, hsl, Lib.hid HTM⟩
          clear hP hv hkm hf ht hsl HTM
          go_wp2_with (first
            | ((with_reducible show wpList _ _ _ ((⟨_, Op.load 27 _, _, _, _, _⟩ : Oper) :: _) _ _); refine wpList_load_row rfl _ (.tmp 7) rfl M rfl 27 P (0, 0) _ KM.out Tryd.underlying27 rfl (by rw [hPs]; exact info35) ?_)
            | (go_at_call 22; refine (rpart_any HMV.out (i := (k : Int)) ⟨by omega, by omega⟩).mono ?_; rintro e w5 ⟨rfl, hb5⟩; have HK5 := Lib.hid (HK.out.below hb5); clear hb5; rw [HV.out.1, HV.out.2]))
          have HK6 := Lib.hid (show Rst w M D img ch N k w5.drew from HK5.out.below (Below.refl _ _).drew)
          have x6 : w5.drew.cell? ⟨M, 2, none⟩ = some (.slice (some ⟨D, 0, none⟩) N N) := HK6.out.m.cell 2
          clear HK5
          refine wp_region_held_drew (S := fun w' => w'.cell? ⟨M, 2, none⟩ = some (.slice (some ⟨D, 0, none⟩) N N)) (by kernel_rfl) x6 (fun hHeld => ?_)
          generalize w5.drew = w6 at *
          refine wpAnyH_take (i := 0) (v := .pointer (some ⟨M, 2, none⟩)) rfl (by kernel_rfl) (by kernel_rfl) (by kernel_rfl) (fun _ _ _ h => h) (Or.inl ⟨by rfl, (by intro w hSw; (try dsimp only at hSw); go_simp)⟩) (by assumption) ?_
          try simp only [Act.put, List.getElem_toArray, List.getElem_cons_zero, List.getElem_cons_succ, List.setIfInBounds_toArray, List.set_cons_zero, List.set_cons_succ]
          refine wpAnyH_take (i := 1) (v := .slice (some ⟨D, 0, none⟩) N N) rfl (by kernel_rfl) (by kernel_rfl) (by kernel_rfl) (fun _ _ _ h => h) (Or.inl ⟨by rfl, (by intro w hSw; (try dsimp only at hSw); go_simp)⟩) (by assumption) ?_
          try simp only [Act.put, List.getElem_toArray, List.getElem_cons_zero, List.getElem_cons_succ, List.setIfInBounds_toArray, List.set_cons_zero, List.set_cons_succ]
          refine wpAnyH_take (i := 2) (v := .int .i64 (k : Int)) rfl (by kernel_rfl) (by kernel_rfl) (by kernel_rfl) (fun _ _ _ h => h) (Or.inl ⟨by rfl, (by intro w hSw; (try dsimp only at hSw); go_simp)⟩) (by assumption) ?_
          try simp only [Act.put, List.getElem_toArray, List.getElem_cons_zero, List.getElem_cons_succ, List.setIfInBounds_toArray, List.set_cons_zero, List.set_cons_succ]
          refine wpAnyH_take (i := 3) (v := .int .i64 (k : Int)) rfl (by kernel_rfl) (by kernel_rfl) (by kernel_rfl) (fun _ _ _ h => h) (Or.inl ⟨by rfl, (by intro w hSw; (try dsimp only at hSw); go_simp)⟩) (by assumption) ?_
          try simp only [Act.put, List.getElem_toArray, List.getElem_cons_zero, List.getElem_cons_succ, List.setIfInBounds_toArray, List.set_cons_zero, List.set_cons_succ]
          refine wpAnyH_take (i := 4) (v := .slice a img.length c) rfl (by kernel_rfl) (by kernel_rfl) (by kernel_rfl) (fun _ _ _ h => h) (Or.inl ⟨by rfl, (by intro w hSw; (try dsimp only at hSw); go_simp)⟩) (by assumption) ?_
          try simp only [Act.put, List.getElem_toArray, List.getElem_cons_zero, List.getElem_cons_succ, List.setIfInBounds_toArray, List.set_cons_zero, List.set_cons_succ]
          refine wpAnyH_take (i := 5) (v := .int .i64 (f : Int)) rfl (by kernel_rfl) (by kernel_rfl) (by kernel_rfl) (fun _ _ _ h => h) (Or.inl ⟨by rfl, (by intro w hSw; (try dsimp only at hSw); go_simp)⟩) (by assumption) ?_
          try simp only [Act.put, List.getElem_toArray, List.getElem_cons_zero, List.getElem_cons_succ, List.setIfInBounds_toArray, List.set_cons_zero, List.set_cons_succ]
          refine wpAnyH_take (i := 6) (v := .int .i64 (t : Int)) rfl (by kernel_rfl) (by kernel_rfl) (by kernel_rfl) (fun _ _ _ h => h) (Or.inl ⟨by rfl, (by intro w hSw; (try dsimp only at hSw); go_simp)⟩) (by assumption) ?_
          try simp only [Act.put, List.getElem_toArray, List.getElem_cons_zero, List.getElem_cons_succ, List.setIfInBounds_toArray, List.set_cons_zero, List.set_cons_succ]
          refine wpAnyH_take (i := 7) (v := .slice A (t - f) (c - f)) rfl (by kernel_rfl) (by kernel_rfl) (by kernel_rfl) (fun _ _ _ h => h) (Or.inl ⟨by rfl, (by intro w hSw; (try dsimp only at hSw); go_simp)⟩) (by assumption) ?_
          try simp only [Act.put, List.getElem_toArray, List.getElem_cons_zero, List.getElem_cons_succ, List.setIfInBounds_toArray, List.set_cons_zero, List.set_cons_succ]
          refine wpAnyH_ready (rs := [8]) (by kernel_rfl) (by simp) (AllReadyH.cons rfl (fun K hK => ?_) AllReadyH.nil)
          try simp only [List.getElem_toArray, List.getElem_cons_zero, List.getElem_cons_succ]
          go_simp
          go_at_call 37
          refine (rcdig_any (i := (k : Int)) (HTA.out.below HK6.out.b (fun b _ h => h)) (by omega) (by omega) (by omega)).mono ?_
          rintro e w7 ⟨rfl, hb7⟩
          have HK7 := Lib.hid (HK6.out.below hb7)
          have x7 : w7.cell? ⟨M, 2, none⟩ = some (.slice (some ⟨D, 0, none⟩) N N) := HK7.out.m.cell 2
          clear hb7 HK6 x6
          go_wp2_with fail
          refine hK.out _ _ x7 (fun hHeld => ?_)
          clear hK K
          try simp only [Act.put, List.getElem_toArray, List.getElem_cons_zero, List.getElem_cons_succ, List.setIfInBounds_toArray, List.set_cons_zero, List.set_cons_succ]
          refine wpAnyH_take (i := 9) (v := .pointer (some ⟨D, k * 32, none⟩)) rfl (by kernel_rfl) (by kernel_rfl) (by kernel_rfl) (fun _ _ _ h => h) (Or.inl ⟨by rfl, (by intro w hSw; (try dsimp only at hSw); go_simp)⟩) (by assumption) ?_
          try simp only [Act.put, List.getElem_toArray, List.getElem_cons_zero, List.getElem_cons_succ, List.setIfInBounds_toArray, List.set_cons_zero, List.set_cons_succ]
          refine wpAnyH_ready (rs := [10]) (by kernel_rfl) (by simp) (AllReadyH.cons rfl (fun K hK => ?_) AllReadyH.nil)
          try simp only [List.getElem_toArray, List.getElem_cons_zero, List.getElem_cons_succ]
          refine if_wanted (by rfl) ?_
          refine wp_store_part _ (.tmp 46) (.tmp 45) rfl D (k * 32) (nums (Mf.cdig k (Mf.ck img ch k))) rfl rfl HK7.out.d (by rw [nums_len, (Mf.cdig_ok _ _).1]; exact info32) (nums_one _) (by rw [nums_len, nums_len, (Mf.cdig_ok _ _).1, Mf.flatten_len (dsTo_ok _ _ _ _), dsTo_len _ _ hk]; omega) ?_
          have HS := Lib.hid (HK7.out.stored hlt)
          refine hK.out _ _ (HS.out.m.cell 2) (fun hHeld => ?_)
          clear hK K
          try simp only [Act.put, List.getElem_toArray, List.getElem_cons_zero, List.getElem_cons_succ, List.setIfInBounds_toArray, List.set_cons_zero, List.set_cons_succ]
          refine wpAnyH_done (by kernel_rfl) ?_ _
          generalize w7.setRow D (splice (nums (dsTo img ch N k).flatten) (k * 32) (nums (Mf.cdig k (Mf.ck img ch k)))).toArray = w8 at *
          go_wp2
          exact ⟨⟨k + 1, by omega, by go_num, HS⟩, by simp [intOf]; omega⟩
        · obtain rfl : k = N := by omega
          have hPa := mcs_one (s := (img.length : Int)) (c := (ch : Int)) (v := .slice (some ⟨D, 0, none⟩) k k) (h := Sm.dig img) rfl
          rw [hP] at hPa
          have HZS := zm_size
          clear hP
          go_wp2_with (first
            | ((with_reducible show wpList _ _ _ ((⟨_, Op.load 27 _, _, _, _, _⟩ : Oper) :: _) _ _); refine wpList_load_row rfl _ (.tmp 7) rfl M rfl 27 P (0, 0) _ KM.out Tryd.underlying27 rfl (by rw [hPs]; exact info35) ?_)
            | ((with_reducible show wpList _ _ _ ((⟨_, Op.store 27 _ _, _, _, _, _⟩ : Oper) :: _) _ _); refine wpList_store_row rfl _ (.tmp 4) (.tmp 47) rfl w.heap.size P rfl rfl 27 _ HK.out.z (by rw [hPs]; exact info35) (by rw [HZS, hPs]) hPa ?_))
          refine bodyPost_ret (results_cell_one rfl _ _ _ _ rfl (loadVar35 (HK.out.z.row P) hPs)) rfl ?_
          refine ⟨⟨_, by rw [HBZ.out.2]; rfl, ?_⟩, below_row HK.out.b (Nat.le_refl _) _⟩
          rw [HBZ.out.1]
          have hl := HK.out.lt
          have h1 : Mf.made img ch = ⟨img.length, ch, dsTo img ch k k, Sm.dig img⟩ := by
            rw [dsTo_all]
            show (⟨img.length, ch, Mf.digsTo img ((ch : Int)).toNat (Mf.cnt img.length ch), Sm.dig img⟩ : Mf.Man) = _
            rw [HNE.out, Int.toNat_natCast]
          rw [h1]
          exact (HMV.out.keep (w' := wr.setRow w.heap.size P) (by simp [World.setRow]) (fun b _ hb => setRow_other wr w.heap.size b P (by omega))).weak (fun b _ hb => by show w.heap.size ≤ b; omega)
end Go.Proofs.YtdjibhpjdhpcgaaDoor
