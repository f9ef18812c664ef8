/-
  The walks of read and Decode.
  The walk of Decode.
  The walk of awake; and of ManifestNames.
-/
import Derived.Test.YtdjibhpjdhpcgaaDoorZp
import Derived.Test.YtdjibhpjdhpcgaaDoorZr
import Derived.Lib.SlBytesConst
set_option maxRecDepth 20000
namespace Mf
open Go.Proofs.YtdjibhpjdhpcgaaDoor
/-- What is read of 32 bytes: the digest, the rest, and whether the reader gave up. -/
def hstep (l : List Int) (gv : Bool) : List Int × List Int × Bool := if 32 ≤ l.length then (l.take 32, l.drop 32, gv) else (zs 32, [], true)
def hs (q : List Int) : Nat → List (List Int) × List Int × Bool
  | 0 => ([], q, false)
  | k + 1 => ((hs q k).1 ++ [(hstep (hs q k).2.1 (hs q k).2.2).1], (hstep (hs q k).2.1 (hs q k).2.2).2)
theorem hs_zero (q : List Int) : hs q 0 = ([], q, false) := rfl
theorem hs_succ (q : List Int) (k : Nat) : hs q (k + 1) = ((hs q k).1 ++ [(hstep (hs q k).2.1 (hs q k).2.2).1], (hstep (hs q k).2.1 (hs q k).2.2).2) := rfl
theorem hs_len (q : List Int) (k : Nat) : (hs q k).1.length = k := by
  induction k with
  | zero => rfl
  | succ k ih => rw [hs_succ]; simp [ih]
theorem hstep_ok {l : List Int} {gv : Bool} (h : Byt l) : Dig (hstep l gv).1 ∧ Byt (hstep l gv).2.1 := by
  unfold hstep
  split
  · exact ⟨⟨by simp; omega, byt_take h 32⟩, byt_drop h 32⟩
  · exact ⟨⟨rfl, byt_zeros 32⟩, byt_nil⟩
theorem hs_dig {q : List Int} (h : Byt q) (k : Nat) : (∀ d ∈ (hs q k).1, Dig d) ∧ Byt (hs q k).2.1 := by
  induction k with
  | zero => exact ⟨(fun d hd => by cases hd), h⟩
  | succ k ih =>
    rw [hs_succ]
    have hh := hstep_ok (gv := (hs q k).2.2) ih.2
    refine ⟨fun d hd => ?_, hh.2⟩
    rcases List.mem_append.1 hd with hd | hd
    · exact ih.1 d hd
    · simp at hd; rw [hd]; exact hh.1
theorem hs_ok {q : List Int} (k : Nat) (h : 32 * k ≤ q.length) : hs q k = (cut q k, q.drop (32 * k), false) := by
  induction k with
  | zero => simp [hs_zero, cut]
  | succ k ih =>
    rw [hs_succ, ih (by omega)]
    unfold hstep
    simp only
    rw [if_pos (by rw [List.length_drop]; omega), cut_succ, List.drop_drop]
    rfl
theorem hs_bad {q : List Int} (k : Nat) (h : q.length < 32 * k) : (hs q k).2 = ([], true) := by
  induction k with
  | zero => omega
  | succ k ih =>
    rw [hs_succ]
    by_cases hk : 32 * k ≤ q.length
    · rw [hs_ok k hk]
      unfold hstep
      simp only
      rw [if_neg (by rw [List.length_drop]; omega)]
    · rw [ih (by omega)]
      rfl
theorem hs_end (q : List Int) (n : Nat) : (q.length = 32 * (n + 1) → Co.doneOf (hs q (n + 1)).2.1 (hs q (n + 1)).2.2 = 0 ∧ (hs q n).1 = cut q n ∧ (hstep (hs q n).2.1 (hs q n).2.2).1 = q.drop (32 * n)) ∧ (q.length ≠ 32 * (n + 1) → Co.doneOf (hs q (n + 1)).2.1 (hs q (n + 1)).2.2 = 20) := by
  refine ⟨fun h => ?_, fun h => ?_⟩
  · rw [hs_ok (n + 1) (by omega), hs_ok n (by omega)]
    refine ⟨?_, rfl, ?_⟩
    · simp only
      rw [List.drop_of_length_le (by omega)]
      rfl
    · unfold hstep
      simp only
      rw [if_pos (by rw [List.length_drop]; omega)]
      exact List.take_of_length_le (by rw [List.length_drop]; omega)
  · by_cases hlt : q.length < 32 * (n + 1)
    · rw [hs_bad (n + 1) hlt]; rfl
    · rw [hs_ok (n + 1) (by omega)]
      simp only
      unfold Co.doneOf
      rw [if_pos]
      refine Or.inr fun e => ?_
      have := congrArg List.length e
      rw [List.length_drop] at this
      simp at this
      omega
/-- A number that is read, or 0 behind bytes that are none. -/
def istep (least most : Int) (l : List Int) (gv : Bool) : Int × List Int × Bool :=
  match Cd.get least most l with
  | some (v, r) => (v, r, gv)
  | none => (0, [], true)
theorem istep_some {least most : Int} {l : List Int} {gv : Bool} {v : Int} {r : List Int} (h : Cd.get least most l = some (v, r)) : istep least most l gv = (v, r, gv) := by unfold istep; rw [h]
theorem istep_none {least most : Int} {l : List Int} {gv : Bool} (h : Cd.get least most l = none) : istep least most l gv = (0, [], true) := by unfold istep; rw [h]
theorem istep_in {least most : Int} {l : List Int} {gv : Bool} (hb : Byt l) : In64 (istep least most l gv).1 ∧ Byt (istep least most l gv).2.1 ∧ (istep least most l gv).2.1.length ≤ l.length := by
  cases h : Cd.get least most l with
  | none => rw [istep_none h]; exact ⟨⟨by show (-9223372036854775808 : Int) ≤ 0; omega, by show (0 : Int) ≤ 9223372036854775807; omega⟩, byt_nil, Nat.zero_le _⟩
  | some x =>
    obtain ⟨v, r⟩ := x
    rw [istep_some h]
    have h1 := Cd.get_enc h hb
    refine ⟨⟨h1.1, h1.2.1⟩, byt_right (a := Cd.num v) (by rw [← h1.2.2.2.2]; exact hb), ?_⟩
    have := congrArg List.length h1.2.2.2.2
    rw [List.length_append] at this
    show r.length ≤ l.length
    omega
theorem dec_steps (l : List Int) : dec l = (match istep 1 65536 l false with | (s, r, g1) => match istep 1 4096 r g1 with | (c, q, _) => decR s c q) := by
  unfold dec
  cases h : Cd.get 1 65536 l with
  | none =>
    rw [istep_none h]
    simp only
    have : Cd.get 1 4096 [] = none := rfl
    rw [istep_none this]
    simp only [decR]
    rw [if_pos (Or.inl (cnt_bad (by omega)))]
  | some x =>
    obtain ⟨s, r⟩ := x
    rw [istep_some h]
    simp only
    cases h2 : Cd.get 1 4096 r with
    | none =>
      rw [istep_none h2]
      simp only [decR]
      rw [if_pos (Or.inl (cnt_bad (by omega)))]
    | some y =>
      obtain ⟨c, q⟩ := y
      rw [istep_some h2]
theorem istep_gv {least most : Int} {l : List Int} {gv : Bool} (h : (istep least most l gv).1 ≠ 0) : (istep least most l gv).2.2 = gv := by
  cases h1 : Cd.get least most l with
  | none => rw [istep_none h1] at h; exact absurd rfl h
  | some x => obtain ⟨v, r⟩ := x; rw [istep_some h1]
end Mf
namespace Go.Proofs.YtdjibhpjdhpcgaaDoor
set_option linter.unusedSimpArgs false
open Go.RowKit
/-- What a panic of must bears. -/
def lostM : List PanicEntry := [{ v := .iface 28 (.int .i64 50), recovered := false }]
theorem mmust_ok (w : World) : Calls Tryd.prog 60 #[.bool true] w fun e w' => e = .returned (.tuple #[]) ∧ w = w' := by
  go_enter Tryd.func60, Tryd.ntmps60
  go_wp2
  go_end0
  exact ⟨rfl, rfl⟩
theorem mmust_no (w : World) : Calls Tryd.prog 60 #[.bool false] w fun e w' => e = .panicked lostM ∧ w = w' := by
  go_enter Tryd.func60, Tryd.ntmps60
  go_wp2
  exact ⟨rfl, rfl, rfl⟩
theorem rint_step {w : World} {g : Nat} {l : List Int} {gave : Bool} (least most : Int) (h : Co.Rd w g l gave) :
    Calls Tryd.prog 59 #[.pointer (some ⟨g, 0, none⟩), .int .i64 least, .int .i64 most] w fun e w' =>
      e = .returned (.int .i64 (Mf.istep least most l gave).1) ∧ Co.Rd w' g (Mf.istep least most l gave).2.1 (Mf.istep least most l gave).2.2 ∧ w.grownBy w' (some g) := by
  refine (Co.rint_any least most h).mono ?_
  rintro e w' (⟨v, r, ho, rfl, h1, h2⟩ | ⟨ho, rfl, h1, h2⟩)
  · rw [Mf.istep_some ho]; exact ⟨rfl, h1, h2⟩
  · rw [Mf.istep_none ho]; exact ⟨rfl, h1, h2⟩
theorem rhash_step {w : World} {g : Nat} {l : List Int} {gave : Bool} (h : Co.Rd w g l gave) :
    Calls Tryd.prog 61 #[.pointer (some ⟨g, 0, none⟩)] w fun e w' =>
      e = .returned (.agg (nums (Mf.hstep l gave).1).toArray) ∧ Co.Rd w' g (Mf.hstep l gave).2.1 (Mf.hstep l gave).2.2 ∧ w.grownBy w' (some g) := by
  refine (Co.rhash_any h).mono ?_
  rintro e w' (⟨hl, rfl, h1, h2⟩ | ⟨hl, rfl, h1, h2⟩)
  · unfold Mf.hstep; rw [if_pos hl]; exact ⟨rfl, h1, h2⟩
  · unfold Mf.hstep; rw [if_neg (by omega)]; exact ⟨rfl, h1, h2⟩
/-- What holds while a manifest's digests are read: k of them are appended, j are read. -/
structure Dst (w : World) (B Bo X M g : Nat) (s c : Int) (q : List Int) (k j : Nat) (v : Value) (wr : World) : Prop where
  rd : Co.Rd wr g (Mf.hs q j).2.1 (Mf.hs q j).2.2
  m : Whole wr M 27 (mcs s c v (zs 32)).toArray
  own : wr.ownsRow Bo 25 32 v k (nums (Mf.hs q k).1.flatten)
  x : Whole wr X 27 zm
  b : Below B w wr
  hb : Bo ≤ wr.heap.size
  lt : B ≤ g ∧ g < X ∧ X < M ∧ M < Bo
theorem Dst.below {w : World} {B Bo X M g : Nat} {s c : Int} {q : List Int} {k j : Nat} {v : Value} {wr w' : World} (h : Dst w B Bo X M g s c q k j v wr) (hb : Below wr.heap.size wr w') : Dst w B Bo X M g s c q k j v w' :=
  ⟨h.rd.below hb, h.m.below hb h.m.lt, own_keep h.own (fun b hq => hb.block b (own_lt h.own b hq)), h.x.below hb h.x.lt, h.b.trans (hb.mono (by have := h.lt; have := h.x.lt; omega)), Nat.le_trans h.hb hb.size, h.lt⟩
theorem Dst.hash {w : World} {B Bo X M g : Nat} {s c : Int} {q : List Int} {k j : Nat} {v : Value} {wr w' : World} (h : Dst w B Bo X M g s c q k j v wr) (hr : Co.Rd w' g (Mf.hstep (Mf.hs q j).2.1 (Mf.hs q j).2.2).2.1 (Mf.hstep (Mf.hs q j).2.1 (Mf.hs q j).2.2).2.2)
    (hg : wr.grownBy w' (some g)) : Dst w B Bo X M g s c q k (j + 1) v w' := by
  obtain ⟨l1, l2, l3, l4⟩ := h.lt
  exact ⟨by rw [Mf.hs_succ]; exact hr, h.m.grown hg (by intro e; injection e; omega), own_keep h.own (fun b hq => hg.block b (own_lt h.own b hq) (by intro e; injection e; have := own_ge h.own b hq; omega)), h.x.grown hg (by intro e; injection e; omega), h.b.grown hg (by have := h.m.lt; omega) (fun b hq => by injection hq with hq; omega), Nat.le_trans h.hb hg.size, h.lt⟩
theorem Dst.stored {w : World} {B Bo X M g : Nat} {s c : Int} {q : List Int} {k j : Nat} {v v' : Value} {wr w' : World} (h : Dst w B Bo X M g s c q k j v wr) (hg : wr.grownBy w' v.ownBlock)
    (hown : w'.ownsRow Bo 25 32 v' (k + 1) (nums (Mf.hs q (k + 1)).1.flatten)) : Dst w B Bo X M g s c q (k + 1) j v' (w'.setCell ⟨M, 2, none⟩ v') := by
  obtain ⟨l1, l2, l3, l4⟩ := h.lt
  have hge : ∀ b, v.ownBlock = some b → Bo ≤ b := own_ge h.own
  have far : ∀ p, p < Bo → some p ≠ v.ownBlock := fun p hp e => by have := hge p e.symm; omega
  have hge' : ∀ b, v'.ownBlock = some b → Bo ≤ b := own_ge hown
  obtain ⟨ra, rn, rc, h1, h2⟩ := h.rd
  refine ⟨⟨ra, rn, rc, (h1.keep (hg.block g h1.lt (far g (by omega)))).far (by show g ≠ M; omega) _, ?_⟩, ?_, own_keep hown (fun b hq => Below.heap_setCell w' ⟨M, 2, none⟩ v' b (by have := hge' b hq; show b ≠ M; omega)), (h.x.grown hg (far X (by omega))).far (by show X ≠ M; omega) _, ?_, ?_, h.lt⟩
  · have h3 := h2.weak (S' := (· < g)) (fun b _ hb => hb)
    exact (h3.grown hg (fun b _ hb => far b (by omega))).keep (by simp) (fun b _ hb => Below.heap_setCell w' ⟨M, 2, none⟩ v' b (by show b ≠ M; omega))
  · exact (h.m.grown hg (far M l4)).set 2 v'
  · exact (h.b.grown hg (by have := h.m.lt; omega) (fun b hq => Nat.le_trans (by omega) (hge b hq))).setCell (by show B ≤ M; omega) _
  · have := hg.size; simp; exact Nat.le_trans h.hb this
theorem splice_mcs {s c : Int} {v : Value} {h h' : List Int} (h1 : h.length = 32) (h2 : h'.length = 32) : splice (mcs s c v h) 3 (nums h') = mcs s c v h' := by
  unfold splice mcs
  rw [nums_len, h2]
  have : (nums h).length = 32 := by rw [nums_len, h1]
  simp [this]
theorem Rd_row {w : World} {g M : Nat} {l : List Int} {gv : Bool} (h : Co.Rd w g l gv) (hM : g < M) (cs : Array Value) : Co.Rd (w.setRow M cs) g l gv := by
  obtain ⟨a, n, c, h1, h2⟩ := h
  exact ⟨a, n, c, (setRow_other w M g cs (by omega)).trans h1, h2.keep (by simp [World.setRow]) (fun b _ hb => setRow_other w M b cs (by omega))⟩
/-- What read answers. -/
def Readd (w : World) (B : Nat) (l : List Int) (e : Ending) (w' : World) : Prop :=
  ((∃ v m, Mf.dec l = some m ∧ e = .returned v ∧ Mv w' (B ≤ ·) v m) ∨ (Mf.dec l = none ∧ e = .panicked lostM)) ∧ Below B w w'
set_option maxHeartbeats 8000000 in
theorem read_any {w : World} {B g : Nat} {l : List Int} (hr : Co.Rd w g l false) (hB : B ≤ g) (hbl : Byt l) :
    Calls Tryd.prog 45 #[.pointer (some ⟨g, 0, none⟩)] w (Readd w B l) := by
  have hgl := hr.lt
  have HD := Lib.hid (Mf.dec_steps l)
  have hi1 := Mf.istep_in (least := 1) (most := 65536) (gv := false) hbl
  have HS1 := Lib.hid (rfl : Mf.istep 1 65536 l false = Mf.istep 1 65536 l false)
  have hrd1 : ∀ {w : World}, Co.Rd w g l false → _ := fun {w} h => rint_step (w := w) 1 65536 h
  obtain ⟨s, r, g1, hs1⟩ : ∃ s r g1, Mf.istep 1 65536 l false = (s, r, g1) := ⟨_, _, _, rfl⟩
  rw [hs1] at HD hi1
  have hi2 := Mf.istep_in (least := 1) (most := 4096) (gv := g1) hi1.2.1
  obtain ⟨c, q, g2, hs2⟩ : ∃ c q g2, Mf.istep 1 4096 r g1 = (c, q, g2) := ⟨_, _, _, rfl⟩
  try simp only at HD hi2
  rw [hs2] at HD hi2
  try simp only at HD
  have HD2 : Hid (Mf.dec l = Mf.decR s c q) := HD
  have HI := Lib.hid (And.intro hi1.1 (And.intro hi2.1 (And.intro hi2.2.1 (show q.length ≤ l.length from Nat.le_trans hi2.2.2 hi1.2.2))))
  have HE1 := Lib.hid hs1
  have HE2 := Lib.hid hs2
  obtain ⟨N, hN⟩ : ∃ N, Mf.cnt s c = N := ⟨_, rfl⟩
  have HN := Lib.hid hN
  have hle : N ≤ 64 := by rw [← hN]; exact Mf.cnt_le s c
  have HG2 : Hid (N ≠ 0 → g2 = false) := Lib.hid (fun h => by
    have hin := Mf.cnt_in (show Mf.cnt s c ≠ 0 by rw [hN]; exact h)
    have e1 : g2 = g1 := by have := Mf.istep_gv (least := 1) (most := 4096) (l := r) (gv := g1) (by rw [hs2]; show c ≠ 0; omega); rw [hs2] at this; exact this
    have e2 : g1 = false := by have := Mf.istep_gv (least := 1) (most := 65536) (l := l) (gv := false) (by rw [hs1]; show s ≠ 0; omega); rw [hs1] at this; exact this
    rw [e1, e2])
  have HR := Lib.hid hr
  have HBL := Lib.hid hbl
  have hmone := mcs_one (s := s) (c := c) (v := .slice none 0 0) (h := zs 32) rfl
  have HMS := Lib.hid (msize (s := s) (c := c) (v := .slice none 0 0) (h := zs 32) rfl)
  clear hr hi1 hi2 hs1 hs2 hrd1 HS1 HD hN hbl
  go_enter Tryd.func45, Tryd.ntmps45
  go_wp2_with fail
  rw [zeroM, show (mcs 0 0 (.slice none 0 0) (zs 32)).toArray = zm from rfl]
  have HR1 := Lib.hid (HR.out.below (below_alloc w (.cells zm 27)))
  have HX1 := Lib.hid (Whole.new w 27 zm)
  have HB1 := Lib.hid ((below_alloc w (.cells zm 27)).mono (show B ≤ w.heap.size by omega))
  have hx1 : w.heap.size < (w.alloc (.cells zm 27)).heap.size := HX1.out.lt
  generalize w.alloc (.cells zm 27) = w1 at *
  generalize w.heap.size = X at *
  refine (rint_step 1 65536 HR1.out).mono ?_
  rintro e w2 ⟨rfl, hrd, hgr⟩
  rw [HE1.out] at hrd ⊢
  have HR2 := Lib.hid hrd
  have HX2 := Lib.hid (HX1.out.grown hgr (by intro e; injection e; omega))
  have HB2 := Lib.hid (HB1.out.grown hgr (by omega) (fun b hb => by injection hb with hb; omega))
  clear hrd hgr HR1 HX1 HB1
  try simp only
  go_wp2_with fail
  refine (rint_step 1 4096 HR2.out).mono ?_
  rintro e w3 ⟨rfl, hrd, hgr⟩
  try simp only at hrd
  rw [HE2.out] at hrd ⊢
  have HR3 := Lib.hid hrd
  have HX3 := Lib.hid (HX2.out.grown hgr (by intro e; injection e; omega))
  have HB3 := Lib.hid (HB2.out.grown hgr (by have := HX2.out.lt; omega) (fun b hb => by injection hb with hb; omega))
  have hx3 : X < w3.heap.size := HX3.out.lt
  clear hrd hgr HR2 HX2 HB2 hx1
  try simp only
  obtain ⟨ML, hML⟩ : ∃ ML, mcs s c (.slice none 0 0) (zs 32) = ML := ⟨_, rfl⟩
  have HBT := Lib.hid (built_sz s c)
  have c0 : (mcs s c (.slice none 0 0) (zs 32))[0]? = some (.int .i64 s) := rfl
  have c1 : (mcs s c (.slice none 0 0) (zs 32))[1]? = some (.int .i64 c) := rfl
  rw [hML] at hmone HMS HBT c0 c1
  have HM := Lib.hid hML
  clear hML
  have hMS := HMS.out
  have km4 : Whole ((w3.alloc (.cells zm 27)).setRow w3.heap.size ML.toArray) w3.heap.size 27 ML.toArray := put_row
  have KM4 := Lib.hid km4
  have k0 : ((w3.alloc (.cells zm 27)).setRow w3.heap.size ML.toArray).cell? ⟨w3.heap.size, 0, none⟩ = some (.int .i64 s) := by rw [km4.cell, List.getElem?_toArray]; exact c0
  have k1 : ((w3.alloc (.cells zm 27)).setRow w3.heap.size ML.toArray).cell? ⟨w3.heap.size, 1, none⟩ = some (.int .i64 c) := by rw [km4.cell, List.getElem?_toArray]; exact c1
  clear km4
  by_cases hz : N = 0
  · have d0 : decide ((0 : Int) < (N : Int)) = false := decide_eq_false (by omega)
    have d0n : decide (0 < N) = false := decide_eq_false (by omega)
    have HDN : Hid (Mf.dec l = none) := Lib.hid (by rw [HD2.out]; unfold Mf.decR; rw [if_pos (Or.inl (by rw [HN.out]; exact hz))])
    go_wp2_with (first
      | ((with_reducible show wpList _ _ _ ((⟨_, Op.build 27 _, _, _, _, _⟩ : Oper) :: _) _ _); refine wpList_built rfl _ rfl _ rfl ML HBT.out ?_)
      | ((with_reducible show wpList _ _ _ ((⟨_, Op.store 27 _ _, _, _, _, _⟩ : Oper) :: _) _ _); rw [zeroM, show (mcs 0 0 (.slice none 0 0) (zs 32)).toArray = zm from rfl]; refine wpList_store_row rfl _ (.tmp 3) (.tmp 9) rfl w3.heap.size ML.toArray rfl rfl 27 _ (Whole.new w3 _ _) (by rw [hMS]; exact info35) (by rw [hMS]; rfl) hmone ?_)
      | (go_at_call 31; refine (count_any _ _ _ HI.out.1 HI.out.2.1).mono ?_; rintro e w5 ⟨rfl, rfl⟩; rw [HN.out])
      | (go_at_call 60; refine (mmust_no _).mono ?_; rintro e w5 ⟨rfl, rfl⟩))
    exact ⟨rfl, Or.inr ⟨HDN.out, rfl⟩, put_below HB3.out (by omega)⟩
  · have d0 : decide ((0 : Int) < (N : Int)) = true := decide_eq_true (by omega)
    have d0n : decide (0 < N) = true := decide_eq_true (by omega)
    have hg2 := HG2.out hz
    subst hg2
    go_wp2_with (first
      | ((with_reducible show wpList _ _ _ ((⟨_, Op.build 27 _, _, _, _, _⟩ : Oper) :: _) _ _); refine wpList_built rfl _ rfl _ rfl ML HBT.out ?_)
      | ((with_reducible show wpList _ _ _ ((⟨_, Op.store 27 _ _, _, _, _, _⟩ : Oper) :: _) _ _); rw [zeroM, show (mcs 0 0 (.slice none 0 0) (zs 32)).toArray = zm from rfl]; refine wpList_store_row rfl _ (.tmp 3) (.tmp 9) rfl w3.heap.size ML.toArray rfl rfl 27 _ (Whole.new w3 _ _) (by rw [hMS]; exact info35) (by rw [hMS]; rfl) hmone ?_)
      | (go_at_call 31; refine (count_any _ _ _ HI.out.1 HI.out.2.1).mono ?_; rintro e w5 ⟨rfl, rfl⟩; rw [HN.out])
      | (go_at_call 60; refine (mmust_ok _).mono ?_; rintro e w5 ⟨rfl, rfl⟩))
    have HD0 : Hid (Dst w B ((w3.alloc (.cells zm 27)).setRow w3.heap.size ML.toArray).heap.size X w3.heap.size g s c q 0 0 (.slice none 0 0) ((w3.alloc (.cells zm 27)).setRow w3.heap.size ML.toArray)) := Lib.hid
      ⟨HR3.out.below (put_below (Below.refl _ _) (Nat.le_refl _)), by rw [HM.out]; exact KM4.out, World.ownsRow_nil _ _ _ _, put_far HX3.out, put_below HB3.out (by omega), Nat.le_refl _, ⟨hB, hgl, hx3, by rw [put_size]; omega⟩⟩
    clear k0 k1 KM4 HX3 HB3 HR3 hmone HMS hMS c0 c1 HM HBT
    generalize (w3.alloc (.cells zm 27)).setRow w3.heap.size ML.toArray = w4 at *
    generalize w3.heap.size = M at *
    generalize w4.heap.size = Bo at *
    go_wp2
    go_loopw [19] (fun i wr => ∃ (k : Nat) (v : Value), k ≤ N ∧ i = .int .i64 (k : Int) ∧ Hid (Dst w B Bo X M g s c q k k v wr)) (fun i _ => N - (intOf i).toNat)
    case atStart => exact ⟨0, _, Nat.zero_le _, rfl, HD0⟩
    case round =>
      clear HD0
      obtain ⟨k, v, hk, rfl, HK⟩ := hrel
      obtain ⟨vq, cap, rfl⟩ := Co.own_form HK.out.own
      by_cases hlt : k < N
      · have HB0 := Lib.hid (HK.out.below (w' := wr.drew) (Below.refl _ _).drew)
        have x0 : wr.drew.cell? ⟨M, 2, none⟩ = some (.slice vq k cap) := HB0.out.m.cell 2
        have HDG := Lib.hid (Mf.hstep_ok (gv := (Mf.hs q k).2.2) (Mf.hs_dig HI.out.2.2.1 k).2)
        have HFL : Hid ((Mf.hs q (k + 1)).1.flatten = (Mf.hs q k).1.flatten ++ (Mf.hstep (Mf.hs q k).2.1 (Mf.hs q k).2.2).1) := Lib.hid (by rw [Mf.hs_succ]; simp)
        clear HK
        go_wp2
        refine wp_region_held_drew (S := fun _ => True) (by kernel_rfl) trivial (fun hHeld => ?_)
        generalize wr.drew = v0 at *
        refine wpAnyH_take (i := 0) (v := .pointer (some ⟨M, 2, none⟩)) rfl (by kernel_rfl) (by kernel_rfl) (by kernel_rfl) (fun _ _ _ h => h) (Or.inl ⟨by rfl, (by intro w hSw; (try dsimp only at hSw); go_simp)⟩) (by assumption) ?_
        try simp only [Act.put, List.getElem_toArray, List.getElem_cons_zero, List.getElem_cons_succ, List.setIfInBounds_toArray, List.set_cons_zero, List.set_cons_succ]
        refine wpAnyH_take (i := 2) (v := .pointer (some ⟨g, 0, none⟩)) rfl (by kernel_rfl) (by kernel_rfl) (by kernel_rfl) (fun _ _ _ h => h) (Or.inl ⟨by rfl, (by intro w hSw; (try dsimp only at hSw); go_simp)⟩) (by assumption) ?_
        try simp only [Act.put, List.getElem_toArray, List.getElem_cons_zero, List.getElem_cons_succ, List.setIfInBounds_toArray, List.set_cons_zero, List.set_cons_succ]
        refine wpAnyH_ready (rs := [1, 3]) (by kernel_rfl) (by simp) (AllReadyH.cons rfl (fun K hK => ?_) (AllReadyH.cons rfl (fun K hK => ?_) AllReadyH.nil))
        · skip
          try simp only [List.getElem_toArray, List.getElem_cons_zero, List.getElem_cons_succ]
          go_simp
          refine hK.out _ _ trivial (fun hHeld => ?_)
          clear hK K
          try simp only [Act.put, List.getElem_toArray, List.getElem_cons_zero, List.getElem_cons_succ, List.setIfInBounds_toArray, List.set_cons_zero, List.set_cons_succ]
          refine wpAnyH_ready (rs := [3]) (by kernel_rfl) (by simp) (AllReadyH.cons rfl (fun K hK => ?_) AllReadyH.nil)
          try simp only [List.getElem_toArray, List.getElem_cons_zero, List.getElem_cons_succ]
          go_simp
          go_at_call 61
          refine (rhash_step HB0.out.rd).mono ?_
          rintro e v1 ⟨rfl, hrd, hgr⟩
          have HB1 := Lib.hid (HB0.out.hash hrd hgr)
          have x1 : v1.cell? ⟨M, 2, none⟩ = some (.slice vq k cap) := HB1.out.m.cell 2
          clear hrd hgr
          go_wp2_with fail
          refine hK.out _ _ trivial (fun hHeld => ?_)
          clear hK K
          try simp only [Act.put, List.getElem_toArray, List.getElem_cons_zero, List.getElem_cons_succ, List.setIfInBounds_toArray, List.set_cons_zero, List.set_cons_succ]
          refine wpAnyH_ready (rs := [4]) (by kernel_rfl) (by simp) (AllReadyH.cons rfl (fun K hK => ?_) AllReadyH.nil)
          try simp only [List.getElem_toArray, List.getElem_cons_zero, List.getElem_cons_succ]
          refine if_wanted (by rfl) ?_
          refine wp_buildD 24 rfl _ HDG.out.1.1 rfl ?_
          have HB2 := Lib.hid (HB1.out.below (below_alloc v1 (.cells (nums (Mf.hstep (Mf.hs q k).2.1 (Mf.hs q k).2.2).1).toArray 25)))
          have KD2 := Lib.hid (Whole.new v1 25 (nums (Mf.hstep (Mf.hs q k).2.1 (Mf.hs q k).2.2).1).toArray)
          have x2 : (v1.alloc (.cells (nums (Mf.hstep (Mf.hs q k).2.1 (Mf.hs q k).2.2).1).toArray 25)).cell? ⟨M, 2, none⟩ = some (.slice vq k cap) := HB2.out.m.cell 2
          generalize v1.alloc (.cells (nums (Mf.hstep (Mf.hs q k).2.1 (Mf.hs q k).2.2).1).toArray 25) = v2 at *
          generalize v1.heap.size = DD at *
          refine hK.out _ _ trivial (fun hHeld => ?_)
          clear hK K
          try simp only [Act.put, List.getElem_toArray, List.getElem_cons_zero, List.getElem_cons_succ, List.setIfInBounds_toArray, List.set_cons_zero, List.set_cons_succ]
          refine wpAnyH_ready (rs := [5]) (by kernel_rfl) (by simp) (AllReadyH.cons rfl (fun K hK => ?_) AllReadyH.nil)
          try simp only [List.getElem_toArray, List.getElem_cons_zero, List.getElem_cons_succ]
          refine if_wanted (by rfl) ?_
          refine wp_append_digs _ (.tmp 22) (.tmp 25) rfl Bo _ k _ rfl HB2.out.own (fun _ => True) (some ⟨DD, 0, none⟩) 1 1 [(Mf.hstep (Mf.hs q k).2.1 (Mf.hs q k).2.2).1] rfl (digs_one KD2.out trivial HDG.out.1) (by omega) (by omega) HB2.out.hb ?_
          intro s' v3 hown hg _
          rw [← nums_append, show (Mf.hs q k).1.flatten ++ [(Mf.hstep (Mf.hs q k).2.1 (Mf.hs q k).2.2).1].flatten = (Mf.hs q (k + 1)).1.flatten by rw [HFL.out]; simp] at hown
          have KM := Lib.hid (HB2.out.m.grown hg (fun e => by have h1 := own_ge HB2.out.own _ e.symm; have h2 := HB2.out.lt; omega))
          have x3 : v3.cell? ⟨M, 2, none⟩ = some (.slice vq k cap) := KM.out.cell 2
          have f3 : v3.frozen? ⟨M, 2, none⟩ = false := KM.out.frozen 2
          obtain ⟨q', cap', rfl⟩ := Co.own_form hown
          have HS := Lib.hid (HB2.out.stored hg hown)
          clear hown hg
          refine hK.out _ _ trivial (fun hHeld => ?_)
          clear hK K
          try simp only [Act.put, List.getElem_toArray, List.getElem_cons_zero, List.getElem_cons_succ, List.setIfInBounds_toArray, List.set_cons_zero, List.set_cons_succ]
          refine wpAnyH_take (i := 6) (v := .pointer (some ⟨M, 2, none⟩)) rfl (by kernel_rfl) (by kernel_rfl) (by kernel_rfl) (fun _ _ _ h => h) (Or.inl ⟨by rfl, (by intro w hSw; (try dsimp only at hSw); go_simp)⟩) (by assumption) ?_
          try simp only [Act.put, List.getElem_toArray, List.getElem_cons_zero, List.getElem_cons_succ, List.setIfInBounds_toArray, List.set_cons_zero, List.set_cons_succ]
          refine wpAnyH_ready (rs := [7]) (by kernel_rfl) (by simp) (AllReadyH.cons rfl (fun K hK => ?_) AllReadyH.nil)
          try simp only [List.getElem_toArray, List.getElem_cons_zero, List.getElem_cons_succ]
          go_simp
          refine hK.out _ _ trivial (fun hHeld => ?_)
          clear hK K
          try simp only [Act.put, List.getElem_toArray, List.getElem_cons_zero, List.getElem_cons_succ, List.setIfInBounds_toArray, List.set_cons_zero, List.set_cons_succ]
          refine wpAnyH_done (by kernel_rfl) ?_ _
          generalize v3.setCell ⟨M, 2, none⟩ (.slice q' (k + 1) cap') = w7 at *
          clear x3 f3 KM
          go_wp2
          exact ⟨⟨k + 1, _, by omega, by go_num, HS⟩, by simp [intOf]; omega⟩
        · skip
          try simp only [List.getElem_toArray, List.getElem_cons_zero, List.getElem_cons_succ]
          go_simp
          go_at_call 61
          refine (rhash_step HB0.out.rd).mono ?_
          rintro e v1 ⟨rfl, hrd, hgr⟩
          have HB1 := Lib.hid (HB0.out.hash hrd hgr)
          have x1 : v1.cell? ⟨M, 2, none⟩ = some (.slice vq k cap) := HB1.out.m.cell 2
          clear hrd hgr
          go_wp2_with fail
          refine hK.out _ _ trivial (fun hHeld => ?_)
          clear hK K
          try simp only [Act.put, List.getElem_toArray, List.getElem_cons_zero, List.getElem_cons_succ, List.setIfInBounds_toArray, List.set_cons_zero, List.set_cons_succ]
          refine wpAnyH_ready (rs := [1, 4]) (by kernel_rfl) (by simp) (AllReadyH.cons rfl (fun K hK => ?_) (AllReadyH.cons rfl (fun K hK => ?_) AllReadyH.nil))
          · skip
            try simp only [List.getElem_toArray, List.getElem_cons_zero, List.getElem_cons_succ]
            go_simp
            refine hK.out _ _ trivial (fun hHeld => ?_)
            clear hK K
            try simp only [Act.put, List.getElem_toArray, List.getElem_cons_zero, List.getElem_cons_succ, List.setIfInBounds_toArray, List.set_cons_zero, List.set_cons_succ]
            refine wpAnyH_ready (rs := [4]) (by kernel_rfl) (by simp) (AllReadyH.cons rfl (fun K hK => ?_) AllReadyH.nil)
            try simp only [List.getElem_toArray, List.getElem_cons_zero, List.getElem_cons_succ]
            refine if_wanted (by rfl) ?_
            refine wp_buildD 24 rfl _ HDG.out.1.1 rfl ?_
            have HB2 := Lib.hid (HB1.out.below (below_alloc v1 (.cells (nums (Mf.hstep (Mf.hs q k).2.1 (Mf.hs q k).2.2).1).toArray 25)))
            have KD2 := Lib.hid (Whole.new v1 25 (nums (Mf.hstep (Mf.hs q k).2.1 (Mf.hs q k).2.2).1).toArray)
            have x2 : (v1.alloc (.cells (nums (Mf.hstep (Mf.hs q k).2.1 (Mf.hs q k).2.2).1).toArray 25)).cell? ⟨M, 2, none⟩ = some (.slice vq k cap) := HB2.out.m.cell 2
            generalize v1.alloc (.cells (nums (Mf.hstep (Mf.hs q k).2.1 (Mf.hs q k).2.2).1).toArray 25) = v2 at *
            generalize v1.heap.size = DD at *
            refine hK.out _ _ trivial (fun hHeld => ?_)
            clear hK K
            try simp only [Act.put, List.getElem_toArray, List.getElem_cons_zero, List.getElem_cons_succ, List.setIfInBounds_toArray, List.set_cons_zero, List.set_cons_succ]
            refine wpAnyH_ready (rs := [5]) (by kernel_rfl) (by simp) (AllReadyH.cons rfl (fun K hK => ?_) AllReadyH.nil)
            try simp only [List.getElem_toArray, List.getElem_cons_zero, List.getElem_cons_succ]
            refine if_wanted (by rfl) ?_
            refine wp_append_digs _ (.tmp 22) (.tmp 25) rfl Bo _ k _ rfl HB2.out.own (fun _ => True) (some ⟨DD, 0, none⟩) 1 1 [(Mf.hstep (Mf.hs q k).2.1 (Mf.hs q k).2.2).1] rfl (digs_one KD2.out trivial HDG.out.1) (by omega) (by omega) HB2.out.hb ?_
            intro s' v3 hown hg _
            rw [← nums_append, show (Mf.hs q k).1.flatten ++ [(Mf.hstep (Mf.hs q k).2.1 (Mf.hs q k).2.2).1].flatten = (Mf.hs q (k + 1)).1.flatten by rw [HFL.out]; simp] at hown
            have KM := Lib.hid (HB2.out.m.grown hg (fun e => by have h1 := own_ge HB2.out.own _ e.symm; have h2 := HB2.out.lt; omega))
            have x3 : v3.cell? ⟨M, 2, none⟩ = some (.slice vq k cap) := KM.out.cell 2
            have f3 : v3.frozen? ⟨M, 2, none⟩ = false := KM.out.frozen 2
            obtain ⟨q', cap', rfl⟩ := Co.own_form hown
            have HS := Lib.hid (HB2.out.stored hg hown)
            clear hown hg
            refine hK.out _ _ trivial (fun hHeld => ?_)
            clear hK K
            try simp only [Act.put, List.getElem_toArray, List.getElem_cons_zero, List.getElem_cons_succ, List.setIfInBounds_toArray, List.set_cons_zero, List.set_cons_succ]
            refine wpAnyH_take (i := 6) (v := .pointer (some ⟨M, 2, none⟩)) rfl (by kernel_rfl) (by kernel_rfl) (by kernel_rfl) (fun _ _ _ h => h) (Or.inl ⟨by rfl, (by intro w hSw; (try dsimp only at hSw); go_simp)⟩) (by assumption) ?_
            try simp only [Act.put, List.getElem_toArray, List.getElem_cons_zero, List.getElem_cons_succ, List.setIfInBounds_toArray, List.set_cons_zero, List.set_cons_succ]
            refine wpAnyH_ready (rs := [7]) (by kernel_rfl) (by simp) (AllReadyH.cons rfl (fun K hK => ?_) AllReadyH.nil)
            try simp only [List.getElem_toArray, List.getElem_cons_zero, List.getElem_cons_succ]
            go_simp
            refine hK.out _ _ trivial (fun hHeld => ?_)
            clear hK K
            try simp only [Act.put, List.getElem_toArray, List.getElem_cons_zero, List.getElem_cons_succ, List.setIfInBounds_toArray, List.set_cons_zero, List.set_cons_succ]
            refine wpAnyH_done (by kernel_rfl) ?_ _
            generalize v3.setCell ⟨M, 2, none⟩ (.slice q' (k + 1) cap') = w7 at *
            clear x3 f3 KM
            go_wp2
            exact ⟨⟨k + 1, _, by omega, by go_num, HS⟩, by simp [intOf]; omega⟩
          · skip
            try simp only [List.getElem_toArray, List.getElem_cons_zero, List.getElem_cons_succ]
            refine if_wanted (by rfl) ?_
            refine wp_buildD 24 rfl _ HDG.out.1.1 rfl ?_
            have HB2 := Lib.hid (HB1.out.below (below_alloc v1 (.cells (nums (Mf.hstep (Mf.hs q k).2.1 (Mf.hs q k).2.2).1).toArray 25)))
            have KD2 := Lib.hid (Whole.new v1 25 (nums (Mf.hstep (Mf.hs q k).2.1 (Mf.hs q k).2.2).1).toArray)
            have x2 : (v1.alloc (.cells (nums (Mf.hstep (Mf.hs q k).2.1 (Mf.hs q k).2.2).1).toArray 25)).cell? ⟨M, 2, none⟩ = some (.slice vq k cap) := HB2.out.m.cell 2
            generalize v1.alloc (.cells (nums (Mf.hstep (Mf.hs q k).2.1 (Mf.hs q k).2.2).1).toArray 25) = v2 at *
            generalize v1.heap.size = DD at *
            refine hK.out _ _ trivial (fun hHeld => ?_)
            clear hK K
            try simp only [Act.put, List.getElem_toArray, List.getElem_cons_zero, List.getElem_cons_succ, List.setIfInBounds_toArray, List.set_cons_zero, List.set_cons_succ]
            refine wpAnyH_ready (rs := [1]) (by kernel_rfl) (by simp) (AllReadyH.cons rfl (fun K hK => ?_) AllReadyH.nil)
            try simp only [List.getElem_toArray, List.getElem_cons_zero, List.getElem_cons_succ]
            go_simp
            refine hK.out _ _ trivial (fun hHeld => ?_)
            clear hK K
            try simp only [Act.put, List.getElem_toArray, List.getElem_cons_zero, List.getElem_cons_succ, List.setIfInBounds_toArray, List.set_cons_zero, List.set_cons_succ]
            refine wpAnyH_ready (rs := [5]) (by kernel_rfl) (by simp) (AllReadyH.cons rfl (fun K hK => ?_) AllReadyH.nil)
            try simp only [List.getElem_toArray, List.getElem_cons_zero, List.getElem_cons_succ]
            refine if_wanted (by rfl) ?_
            refine wp_append_digs _ (.tmp 22) (.tmp 25) rfl Bo _ k _ rfl HB2.out.own (fun _ => True) (some ⟨DD, 0, none⟩) 1 1 [(Mf.hstep (Mf.hs q k).2.1 (Mf.hs q k).2.2).1] rfl (digs_one KD2.out trivial HDG.out.1) (by omega) (by omega) HB2.out.hb ?_
            intro s' v3 hown hg _
            rw [← nums_append, show (Mf.hs q k).1.flatten ++ [(Mf.hstep (Mf.hs q k).2.1 (Mf.hs q k).2.2).1].flatten = (Mf.hs q (k + 1)).1.flatten by rw [HFL.out]; simp] at hown
            have KM := Lib.hid (HB2.out.m.grown hg (fun e => by have h1 := own_ge HB2.out.own _ e.symm; have h2 := HB2.out.lt; omega))
            have x3 : v3.cell? ⟨M, 2, none⟩ = some (.slice vq k cap) := KM.out.cell 2
            have f3 : v3.frozen? ⟨M, 2, none⟩ = false := KM.out.frozen 2
            obtain ⟨q', cap', rfl⟩ := Co.own_form hown
            have HS := Lib.hid (HB2.out.stored hg hown)
            clear hown hg
            refine hK.out _ _ trivial (fun hHeld => ?_)
            clear hK K
            try simp only [Act.put, List.getElem_toArray, List.getElem_cons_zero, List.getElem_cons_succ, List.setIfInBounds_toArray, List.set_cons_zero, List.set_cons_succ]
            refine wpAnyH_take (i := 6) (v := .pointer (some ⟨M, 2, none⟩)) rfl (by kernel_rfl) (by kernel_rfl) (by kernel_rfl) (fun _ _ _ h => h) (Or.inl ⟨by rfl, (by intro w hSw; (try dsimp only at hSw); go_simp)⟩) (by assumption) ?_
            try simp only [Act.put, List.getElem_toArray, List.getElem_cons_zero, List.getElem_cons_succ, List.setIfInBounds_toArray, List.set_cons_zero, List.set_cons_succ]
            refine wpAnyH_ready (rs := [7]) (by kernel_rfl) (by simp) (AllReadyH.cons rfl (fun K hK => ?_) AllReadyH.nil)
            try simp only [List.getElem_toArray, List.getElem_cons_zero, List.getElem_cons_succ]
            go_simp
            refine hK.out _ _ trivial (fun hHeld => ?_)
            clear hK K
            try simp only [Act.put, List.getElem_toArray, List.getElem_cons_zero, List.getElem_cons_succ, List.setIfInBounds_toArray, List.set_cons_zero, List.set_cons_succ]
            refine wpAnyH_done (by kernel_rfl) ?_ _
            generalize v3.setCell ⟨M, 2, none⟩ (.slice q' (k + 1) cap') = w7 at *
            clear x3 f3 KM
            go_wp2
            exact ⟨⟨k + 1, _, by omega, by go_num, HS⟩, by simp [intOf]; omega⟩
      · obtain rfl : k = N := by omega
        have HX := Lib.hid (And.intro (Mf.hs_dig HI.out.2.2.1 k) (Mf.hs_end q k))
        have HDG := Lib.hid (Mf.hstep_ok (gv := (Mf.hs q k).2.2) (Mf.hs_dig HI.out.2.2.1 k).2)
        obtain ⟨d, hd⟩ : ∃ d, (Mf.hstep (Mf.hs q k).2.1 (Mf.hs q k).2.2).1 = d := ⟨_, rfl⟩
        rw [hd] at HDG HX
        have hd32 := HDG.out.1.1
        have hnd : (nums d).length = 32 := by rw [nums_len, hd32]
        have HHD := Lib.hid hd
        go_wp2_with fail
        refine (rhash_step HK.out.rd).mono ?_
        rintro e w5 ⟨rfl, hrd, hgr⟩
        have HK5 := Lib.hid (HK.out.hash hrd hgr)
        clear hrd hgr HK
        rw [HHD.out]
        have hlts := HK5.out.lt
        have hM5 := HK5.out.m.lt
        clear hd
        go_wp2_with ((with_reducible show wpList _ _ _ ((⟨_, Op.store 25 _ _, _, _, _, _⟩ : Oper) :: _) _ _); refine wpList_store_part rfl _ (.tmp 31) (.tmp 30) rfl M 3 (nums d) rfl rfl HK5.out.m (by rw [hnd]; exact info32) (nums_one _) (by rw [hnd, mcs_len rfl]; omega) ?_)
        rw [splice_mcs rfl hd32]
        have hrd6 := Rd_row HK5.out.rd (show g < M by omega) (mcs s c (.slice vq k cap) d).toArray
        have km6 := HK5.out.m.row (mcs s c (.slice vq k cap) d).toArray
        have kx6 := HK5.out.x.rowFar (show X ≠ M by omega) (mcs s c (.slice vq k cap) d).toArray
        have kb6 := below_row HK5.out.b (show B ≤ M by omega) (mcs s c (.slice vq k cap) d).toArray
        have ko6 : (w5.setRow M (mcs s c (.slice vq k cap) d).toArray).ownsRow Bo 25 32 (.slice vq k cap) k (nums (Mf.hs q k).1.flatten) := own_keep HK5.out.own (fun b hb => setRow_other w5 M b _ (by have := own_ge HK5.out.own b hb; omega))
        have H6 := Lib.hid (And.intro hrd6 (And.intro km6 (And.intro kx6 (And.intro kb6 ko6))))
        clear hrd6 km6 kx6 kb6 ko6 HK5 hM5
        generalize w5.setRow M (mcs s c (.slice vq k cap) d).toArray = w6 at *
        by_cases hql : q.length = 32 * (k + 1)
        · have hE := HX.out.2.1 hql
          have HDEC : Hid (Mf.dec l = some ⟨s, c, (Mf.hs q k).1, d⟩) := Lib.hid (by
            rw [HD2.out]; unfold Mf.decR
            rw [if_neg (by rw [HN.out]; omega), HN.out, hE.2.1, hE.2.2])
          have HDN := Lib.hid hE.1
          have HDS := Lib.hid HX.out.1.1
          clear hE
          have hPs := msize (s := s) (c := c) (v := .slice vq k cap) hd32
          have hPa := mcs_one (s := s) (c := c) (v := .slice vq k cap) (h := d) rfl
          obtain ⟨P, hP⟩ : ∃ P, (mcs s c (.slice vq k cap) d).toArray = P := ⟨_, rfl⟩
          rw [hP] at hPs hPa H6
          have HP := Lib.hid hP
          clear hP
          have HZS := zm_size
          go_wp2_with (first
            | (go_at_call 62; refine (Co.done_any H6.out.1).mono ?_; rintro e w7 ⟨rfl, rfl⟩; rw [HDN.out])
            | (go_at_call 60; refine (mmust_ok _).mono ?_; rintro e w7 ⟨rfl, rfl⟩)
            | ((with_reducible show wpList _ _ _ ((⟨_, Op.load 27 _, _, _, _, _⟩ : Oper) :: _) _ _); refine wpList_load_row rfl _ (.tmp 3) rfl M rfl 27 P (0, 0) _ H6.out.2.1 Tryd.underlying27 rfl (by rw [hPs]; exact info35) ?_)
            | ((with_reducible show wpList _ _ _ ((⟨_, Op.store 27 _ _, _, _, _, _⟩ : Oper) :: _) _ _); refine wpList_store_row rfl _ (.tmp 2) (.tmp 36) rfl X P rfl rfl 27 _ H6.out.2.2.1 (by rw [hPs]; exact info35) (by rw [HZS, hPs]) hPa ?_))
          refine bodyPost_ret (results_one_cell rfl _ _ _ _ rfl (loadVar35 (H6.out.2.2.1.row P) hPs)) rfl ?_
          obtain ⟨aq, cq, hq, hqc, hdg⟩ := own_digs H6.out.2.2.2.2 HDS.out (Mf.hs_len q k)
          injection hq with hq1 _ hq3
          subst hq1 hq3
          refine ⟨Or.inl ⟨_, _, HDEC.out, rfl, ?_⟩, below_row H6.out.2.2.2.1 (by omega) _⟩
          refine ⟨vq, k, cap, by rw [← HP.out], hqc, ?_, HDG.out.1, HI.out.1, HI.out.2.1⟩
          exact (hdg.keep (w' := w6.setRow X P) (by simp [World.setRow]) (fun b _ hb => setRow_other w6 X b P (by omega))).weak (fun b _ hb => by show B ≤ b; omega)
        · have HDN := Lib.hid (HX.out.2.2 hql)
          have HDEC : Hid (Mf.dec l = none) := Lib.hid (by
            rw [HD2.out]; unfold Mf.decR
            rw [if_pos (Or.inr (by rw [HN.out]; exact hql))])
          go_wp2_with (first
            | (go_at_call 62; refine (Co.done_any H6.out.1).mono ?_; rintro e w7 ⟨rfl, rfl⟩; rw [HDN.out])
            | (go_at_call 60; refine (mmust_no _).mono ?_; rintro e w7 ⟨rfl, rfl⟩))
          exact ⟨rfl, Or.inr ⟨HDEC.out, rfl⟩, H6.out.2.2.2.1⟩
end Go.Proofs.YtdjibhpjdhpcgaaDoor
namespace Go.Proofs.YtdjibhpjdhpcgaaDoor
set_option maxRecDepth 20000
set_option linter.unusedSimpArgs false
open Go.RowKit
theorem results_two_cells {fn : Func} {p q : Tmp} {ty tq : TypeId} (h : fn.results = #[.cell p ty, .cell q tq]) (tmps : Array Value) (P : Program) (w : World) (a b : Addr) {v u : Value} (ht : tmps.getD p undef = .pointer (some a)) (hu : tmps.getD q undef = .pointer (some b))
    (hv : (loadVar ty a).run P w = .ok v w) (hw : (loadVar tq b).run P w = .ok u w) :
    (results fn tmps).run P w = .ok (.tuple #[v, u]) w := by
  simp only [results, h]
  simp only [Array.getD_eq_getD_getElem?] at ht hu
  simp [ht, hu, hv, hw, asAddr]
/-- The deferred function, behind a panic. -/
theorem caughtD (A E : Nat) (older : List PanicEntry) (pv : Value) (w : World) (old : Array Value) (hA : Whole w A 27 old) (ho : old.size = 35) (oe : Value) (hE : Whole w E 28 #[oe]) (hne : A ≠ E) :
    CallsD Tryd.prog 44 #[.pointer (some ⟨A, 0, none⟩), .pointer (some ⟨E, 0, none⟩)] (.panicking ({ v := .iface 28 pv, recovered := false } :: older)) w fun e u' w' =>
      e = .returned (.tuple #[]) ∧ u' = .panicking ({ v := .iface 28 pv, recovered := true } :: older) ∧ w' = (w.setRow A zm).setCell ⟨E, 0, none⟩ (.int .i64 50) := by
  have hE2 : Whole (w.setRow A zm) E 28 #[oe] := hE.rowFar (Ne.symm hne) _
  have c1 : (w.setRow A zm).cell? ⟨E, 0, none⟩ = some oe := hE2.cell 0
  have f1 : (w.setRow A zm).frozen? ⟨E, 0, none⟩ = false := hE2.frozen 0
  have hall := mcs_one (s := 0) (c := 0) (v := .slice none 0 0) (h := zs 32) rfl
  refine callsD_of_wpS Tryd.func44 rfl fun c₀ cs hu => ?_
  apply wpS_seq
  apply wpS_region
  simp [wpOpsS, go_sem, recoverD, hu, Tryd.ntmps44, Exit.thenS]
  refine wpS_cond (t := true) (by simp [Act.eval, Array.replicate]) ?_
  simp only [if_true]
  refine wpS_of_wp ?_
  go_wp2_with (first
    | ((with_reducible show wpList _ _ _ ((⟨_, Op.build 27 _, _, _, _, _⟩ : Oper) :: _) _ _); refine wpList_built rfl _ rfl _ rfl _ built_nil ?_)
    | ((with_reducible show wpList _ _ _ ((⟨_, Op.store 27 _ _, _, _, _, _⟩ : Oper) :: _) _ _); refine wpList_store_row rfl _ (.tmp 0) (.tmp 4) rfl A zm rfl rfl 27 _ hA (by rw [zm_size]; exact info35) (by rw [zm_size]; exact ho) hall ?_))
  exact ⟨rfl, _, rfl, .tuple #[], by simp [results, Tryd.results44], rfl, rfl, rfl⟩
theorem idleD (A E : Nat) (w : World) :
    CallsD Tryd.prog 44 #[.pointer (some ⟨A, 0, none⟩), .pointer (some ⟨E, 0, none⟩)] .returning w fun e u' w' => e = .returned (.tuple #[]) ∧ u' = .returning ∧ w' = w := by
  refine callsD_of_wpS Tryd.func44 rfl fun c₀ cs hu => ?_
  apply wpS_seq
  apply wpS_region
  simp [wpOpsS, go_sem, recoverD, hu, Tryd.ntmps44, Exit.thenS]
  refine wpS_cond (t := false) (by simp [Act.eval, Array.replicate]) ?_
  simp only [Bool.false_eq_true, if_false]
  refine wpS_of_wp (wp_skip ?_)
  cases c₀
  simp_all [bodyPostS, results, Tryd.results44]
theorem loadErr {w : World} {b : Nat} {u : Value} (h : Whole w b 28 #[u]) : (loadVar 28 ⟨b, 0, none⟩).run Tryd.prog w = .ok u w := by
  have hc := h.cell 0
  simp [loadVar, go_sem, hc]
/-- What Decode answers. -/
def Decd (w : World) (l : List Int) (e : Ending) (w' : World) : Prop :=
  ((∃ v m, Mf.dec l = some m ∧ e = .returned (.tuple #[v, .int .i64 0]) ∧ Mv w' (w.heap.size ≤ ·) v m) ∨ (Mf.dec l = none ∧ e = .returned (.tuple #[.agg zm, .int .i64 50]))) ∧ Below w.heap.size w w'
set_option maxHeartbeats 2000000 in
theorem decode_any {w : World} {S : Nat → Prop} {a : Option Addr} {n c : Nat} {l : List Int} (ht : Txt w S a n c l) (hn : n ≤ 1000000) :
    Calls Tryd.prog 29 #[.slice a n c] w (Decd w l) := by
  have hmf : ∀ (fn : Fn) (first cap : Array Value) (w : World), (Instr.makeFunc fn first cap).run Tryd.prog w = .ok (.func fn first cap) w := fun _ _ _ _ => rfl
  have HT := Lib.hid ht.old
  have HBY := Lib.hid ht.2.2.1
  clear ht
  go_enter_defers Tryd.func29, Tryd.ntmps29
  go_wp2_with fail
  rw [zeroM, show (mcs 0 0 (.slice none 0 0) (zs 32)).toArray = zm from rfl]
  have ka := (Whole.new w 27 zm).alloc (.cells #[.int .i64 0] 28)
  have ke := Whole.new (w.alloc (.cells zm 27)) 28 #[.int .i64 0]
  rw [size_alloc] at ke
  have hb2 := below_two w (.cells zm 27) (.cells #[.int .i64 0] 28)
  generalize (w.alloc (.cells zm 27)).alloc (.cells #[.int .i64 0] 28) = w2 at *
  have HT2 := HT.out.below hb2 (fun b _ h => h)
  refine (Co.new_any HT2 (by omega)).mono ?_
  rintro e w3 ⟨g, rfl, hg, hrd, hb3⟩
  have he2 := ke.lt
  have H3 := Lib.hid (And.intro (ka.below hb3 ka.lt) (And.intro (ke.below hb3 ke.lt) (And.intro (hb2.trans (hb3.mono hb2.size)) hrd)))
  have hgl := hrd.lt
  have hsz3 : w2.heap.size ≤ w3.heap.size := hb3.size
  clear ka ke hb2 HT2 hrd hb3
  go_wp2_with fail
  refine (read_any (B := w2.heap.size) H3.out.2.2.2 hg HBY.out).mono ?_
  rintro e w4 ⟨hd, hb4⟩
  have H4 := Lib.hid (And.intro (H3.out.1.below hb4 (by omega)) (And.intro (H3.out.2.1.below hb4 (by omega)) (H3.out.2.2.1.trans (hb4.mono (by omega)))))
  clear hb4 H3
  rcases hd with ⟨v, m, hdec, rfl, hmv⟩ | ⟨hdec, rfl⟩
  · obtain ⟨am, nm, cm, rfl, hmc, hmd, hmw, hms, hmch⟩ := hmv
    have HMV := Lib.hid (And.intro hmc (And.intro hmd (And.intro hmw (And.intro hms hmch))))
    have hPs := msize (s := m.size) (c := m.chunk) (v := .slice am nm cm) hmw.1
    have hPa := mcs_one (s := m.size) (c := m.chunk) (v := .slice am nm cm) (h := m.wh) rfl
    have HDEC := Lib.hid hdec
    obtain ⟨P, hP⟩ : ∃ P, (mcs m.size m.chunk (.slice am nm cm) m.wh).toArray = P := ⟨_, rfl⟩
    rw [hP] at hPs hPa ⊢
    have HP := Lib.hid hP
    clear hP hmc hmd hmw hms hmch hdec
    have hE5 : Whole (w4.setRow w.heap.size P) (w.heap.size + 1) 28 #[.int .i64 0] := H4.out.2.1.rowFar (by omega) _
    have c5 : (w4.setRow w.heap.size P).cell? ⟨w.heap.size + 1, 0, none⟩ = some (.int .i64 0) := hE5.cell 0
    have f5 : (w4.setRow w.heap.size P).frozen? ⟨w.heap.size + 1, 0, none⟩ = false := hE5.frozen 0
    have HZS := zm_size
    go_wp2_with ((with_reducible show wpList _ _ _ ((⟨_, Op.store 27 _ _, _, _, _, _⟩ : Oper) :: _) _ _); refine wpList_store_row rfl _ (.tmp 2) (.tmp 7) rfl w.heap.size P rfl rfl 27 _ H4.out.1 (by rw [hPs]; exact info35) (by rw [HZS, hPs]) hPa ?_)
    have kA : Whole ((w4.setRow w.heap.size P).setCell ⟨w.heap.size + 1, 0, none⟩ (.int .i64 0)) w.heap.size 27 P := (H4.out.1.row P).far (by show w.heap.size ≠ w.heap.size + 1; omega) _
    have kE : Whole ((w4.setRow w.heap.size P).setCell ⟨w.heap.size + 1, 0, none⟩ (.int .i64 0)) (w.heap.size + 1) 28 #[.int .i64 0] := hE5.set 0 _
    refine leaves_cons (f := 44) (args := #[.pointer (some ⟨w.heap.size, 0, none⟩), .pointer (some ⟨w.heap.size + 1, 0, none⟩)]) (by simp) (by simp [go_sem]) ?_
    refine (idleD _ _ _).mono ?_
    rintro e u' w'' ⟨rfl, rfl, rfl⟩
    refine ⟨_, results_two_cells rfl _ _ _ _ _ rfl rfl (loadVar35 kA hPs) (loadErr kE), Or.inl ⟨_, m, HDEC.out, rfl, ?_⟩, (below_row H4.out.2.2 (Nat.le_refl _) P).setCell (by show w.heap.size ≤ w.heap.size + 1; omega) _⟩
    refine ⟨am, nm, cm, by rw [← HP.out], HMV.out.1, ?_, HMV.out.2.2⟩
    exact (HMV.out.2.1.keep (by simp [World.setRow]) (fun b _ hb => (Below.heap_setCell (w4.setRow w.heap.size P) ⟨w.heap.size + 1, 0, none⟩ _ b (by show b ≠ w.heap.size + 1; omega)).trans (setRow_other w4 w.heap.size b P (by omega)))).weak (fun b _ hb => by show w.heap.size ≤ b; omega)
  · refine leaves_cons (f := 44) (args := #[.pointer (some ⟨w.heap.size, 0, none⟩), .pointer (some ⟨w.heap.size + 1, 0, none⟩)]) (by simp) (by simp [go_sem]) ?_
    refine (caughtD w.heap.size (w.heap.size + 1) [] (.int .i64 50) w4 zm H4.out.1 zm_size (.int .i64 0) H4.out.2.1 (by omega)).mono ?_
    rintro e u' w'' ⟨rfl, rfl, rfl⟩
    have kA : Whole ((w4.setRow w.heap.size zm).setCell ⟨w.heap.size + 1, 0, none⟩ (.int .i64 50)) w.heap.size 27 zm := (H4.out.1.row zm).far (by show w.heap.size ≠ w.heap.size + 1; omega) _
    have kE : Whole ((w4.setRow w.heap.size zm).setCell ⟨w.heap.size + 1, 0, none⟩ (.int .i64 50)) (w.heap.size + 1) 28 #[.int .i64 50] := (H4.out.2.1.rowFar (by omega) zm).set 0 _
    exact ⟨_, results_two_cells rfl _ _ _ _ _ rfl rfl (loadVar35 kA zm_size) (loadErr kE), Or.inr ⟨hdec, rfl⟩, (below_row H4.out.2.2 (Nat.le_refl _) zm).setCell (by show w.heap.size ≤ w.heap.size + 1; omega) _⟩
end Go.Proofs.YtdjibhpjdhpcgaaDoor
namespace Go.Proofs.YtdjibhpjdhpcgaaDoor
set_option maxRecDepth 20000
set_option linter.unusedSimpArgs false
open Go.RowKit
theorem build_any {w : World} {S : Nat → Prop} {a : Option Addr} {n c : Nat} {img : List Int} {ch : Int} (ht : Txt w S a n c img) (hch : In64 ch) (hn : n ≤ 800000) (hR : Roots w) :
    Calls Tryd.prog 13 #[.slice a n c, .int .i64 ch] w (Bldd w img ch) := by
  by_cases h : Mf.cnt img.length ch = 0
  · exact build_bad ht hch hn h
  · have hi := Mf.cnt_in h
    obtain ⟨k, rfl⟩ : ∃ k : Nat, ch = (k : Int) := ⟨ch.toNat, by omega⟩
    exact build_good ht hn hR h
theorem rbuild_any {w : World} {S : Nat → Prop} {a : Option Addr} {n c : Nat} {img : List Int} {ch : Int} (ht : Txt w S a n c img) (hch : In64 ch) (hn : n ≤ 800000) :
    Calls Tryd.prog 14 #[.slice a n c, .int .i64 ch] w (Bldd w img ch) := by
  by_cases h : Mf.cnt img.length ch = 0
  · exact rbuild_bad ht hch hn h
  · have hi := Mf.cnt_in h
    obtain ⟨k, rfl⟩ : ∃ k : Nat, ch = (k : Int) := ⟨ch.toNat, by omega⟩
    exact rbuild_good ht hn h
/-- The block A holds the manifest m. -/
def Has (w : World) (A : Nat) (P : Array Value) (m : Mf.Man) : Prop := Whole w A 27 P ∧ Mv w (fun b => b < w.heap.size) (.agg P) m
theorem Has.below {w w' : World} {A : Nat} {P : Array Value} {m : Mf.Man} (h : Has w A P m) (hb : Below w.heap.size w w') : Has w' A P m :=
  ⟨h.1.below hb h.1.lt, (h.2.below hb (fun _ _ h => h)).old⟩
theorem mv_agg {w : World} {S : Nat → Prop} {v : Value} {m : Mf.Man} (h : Mv w S v m) : ∃ P : Array Value, v = .agg P ∧ P.size = 35 ∧ P.all (·.oneCell') = true := by
  obtain ⟨a, n, c, rfl, h1, h2, h3, h4⟩ := h
  exact ⟨_, rfl, msize h3.1, mcs_one rfl⟩
/-- A manifest that is laid into a variable of its own. -/
theorem has_put {w : World} {S : Nat → Prop} {P : Array Value} {m : Mf.Man} (h : Mv w S (.agg P) m) (z : Array Value) : Has ((w.alloc (.cells z 27)).setRow w.heap.size P) w.heap.size P m :=
  ⟨put_row, (h.old.below (put_below (Below.refl _ _) (Nat.le_refl _)) (fun _ _ h => h)).old⟩
theorem has_load {w : World} {A : Nat} {P : Array Value} {m : Mf.Man} (h : Has w A P m) {ops : Array Oper} {rest : List Oper} {op : Oper} {a : Act} {Q : Exit → Act → World → Prop} (hgd : Region.wanted op (yielded ops a.tmps) = true) (x : Operand) (ho : op.op = .load 27 x) (hx : a.eval x = .pointer (some ⟨A, 0, none⟩))
    (hn : wpList Tryd.prog ops Q rest (a.put op.dst (.agg P)) w) : wpList Tryd.prog ops Q (op :: rest) a w := by
  obtain ⟨P', e, hs, _⟩ := mv_agg h.2
  injection e with e
  subst e
  exact wpList_step fun _ hK => by
    rw [if_pos hgd]
    exact wp_load_row _ x ho A hx 27 P (0, 0) _ h.1 Tryd.underlying27 rfl (by rw [hs]; exact info35) (hK _ _ hn)
theorem wpList_builtG {ops : Array Oper} {rest : List Oper} {o : Oper} {a : Act} {w : World} {Q : Exit → Act → World → Prop} {ty : TypeId} (hg : Region.wanted o (yielded ops a.tmps) = true) (parts : Array (Nat × Operand)) (ho : o.op = .build ty parts)
    (vs : List (Nat × Value)) (hv : parts.toList.map (fun q => (q.1, a.eval q.2)) = vs) (cells : List Value) (hc : Tryd.prog.built ty vs = some cells.toArray)
    (h : wpList Tryd.prog ops Q rest (a.put o.dst (.agg cells.toArray)) w) : wpList Tryd.prog ops Q (o :: rest) a w := by
  have e : (parts.map fun (i, x) => (i, a.eval x)).toList = vs := by rw [← hv]; simp
  refine wpList_step fun _ hK => ?_
  rw [if_pos hg]
  unfold Oper.wp execOp
  simp only [ho, Sem.run_bind, run_build w ty _ cells.toArray (by rw [e, hc]), Result.andThen_ok]
  exact hK _ _ h
theorem num_one {n : Int} (h0 : 0 ≤ n) (h1 : n ≤ 63) : (Cd.num n).length = 1 := by
  have hf : Cd.fold n / 128 = 0 := by unfold Cd.fold; rw [if_neg (by omega)]; omega
  unfold Cd.num Cd.encU
  rw [hf, Cd.tops_zero]
  rfl
def digits : List Int := [48, 49, 50, 51, 52, 53, 54, 55, 56, 57]
/-- What is known of the manifest of ten bytes. -/
theorem ten : ∃ m : Mf.Man, Mf.bld digits 4 = m ∧ Mf.berr digits 4 = 0 ∧ ¬ m.bad ∧ m.ds.length = 3 ∧ Mf.fr m 2 = 8 ∧ Mf.til m 2 = 10 ∧ (Mf.body m).length = 130 ∧ Mf.dec (Mf.body m) = some m ∧
    Mf.ver m 0 [48, 49, 50, 51] = 0 ∧ Mf.ver m 0 [48, 49, 50] = 51 ∧ Mf.who m digits = 0 := by
  have hc : Mf.cnt ((digits.length : Nat) : Int) 4 = 3 := by decide
  have hne : Mf.cnt ((digits.length : Nat) : Int) 4 ≠ 0 := by rw [hc]; decide
  have hb := bld_made hne
  refine ⟨_, rfl, hb.2, ?_⟩
  rw [hb.1]
  have hbad := Mf.bad_made hne
  have hds : (Mf.made digits 4).ds.length = 3 := by show (Mf.digsTo _ _ (Mf.cnt ((digits.length : Nat) : Int) 4)).length = 3; rw [Mf.digsTo_len, hc]
  have hok : ∀ d ∈ (Mf.made digits 4).ds, Dig d := Mf.digsTo_ok _ _ _
  have hw : Dig (Mf.made digits 4).wh := dig_ok _
  have p2 := part_vals (img := digits) (ch := 4) (N := 3) (k := 2) (ds := (Mf.made digits 4).ds) (wh := (Mf.made digits 4).wh) hc hds (by decide)
  have p0 := part_vals (img := digits) (ch := 4) (N := 3) (k := 0) (ds := (Mf.made digits 4).ds) (wh := (Mf.made digits 4).wh) hc hds (by decide)
  have hoff : ¬ Mf.off (Mf.made digits 4) 0 := by
    intro h
    rcases h with h | h | h
    · exact hbad h
    · omega
    · rw [hds] at h; omega
  have e0 : Mf.fr (Mf.made digits 4) 0 = 0 := p0.1
  have e1 : Mf.til (Mf.made digits 4) 0 = 4 := p0.2.1
  refine ⟨hbad, hds, p2.1, p2.2.1, ?_, Mf.dec_body hbad hok hw, ?_, ?_, ?_⟩
  · rw [Mf.body_len hok hw, hds]
    show (Cd.num 10).length + (Cd.num 4).length + 32 * 4 = 130
    rw [num_one (by omega) (by omega), num_one (by omega) (by omega)]
  · rw [ver_in hoff, e0, e1, if_neg (by decide), if_pos]
    have h1 : (Mf.made digits 4).ds = Mf.digsTo digits 4 3 := by show Mf.digsTo _ _ (Mf.cnt ((digits.length : Nat) : Int) 4) = _; rw [hc]; rfl
    rw [h1]
    rfl
  · rw [ver_in hoff, e0, e1, if_pos (by decide)]
  · rw [who_in hbad, if_neg (by show ¬ ((digits.length : Nat) : Int) ≠ (digits.length : Nat); simp)]
    exact if_pos rfl
theorem has_chunks {w : World} {A : Nat} {P : Array Value} {m : Mf.Man} (h : Has w A P m) : ∃ a n c, w.cell? ⟨A, 2, none⟩ = some (.slice a n c) ∧ m.ds.length = n := by
  obtain ⟨a, n, c, e, h1, h2, _⟩ := h.2
  injection e with e
  subst e
  exact ⟨a, n, c, h.1.cell 2, h2.1⟩
theorem txt_new {w : World} {t : TypeId} {fr : Nat × Nat} {l : List Int} {n : Nat} (S : Nat → Prop) (hS : S w.heap.size) (hb : Byt l) (hn : l.length = n) : Txt (w.alloc (.cells (nums l).toArray t fr)) S (some ⟨w.heap.size, 0, none⟩) n n l := by
  refine ⟨hn, Nat.le_refl _, hb, Or.inr ⟨w.heap.size, 0, rfl, hS, by rw [size_alloc]; omega, fun j hj => ?_⟩⟩
  rw [cell_of_row _ w.heap.size (0 + j) _ t fr (heap_alloc_new w _), Nat.zero_add, List.getElem?_toArray, nums_get _ _ (by omega)]
set_option maxHeartbeats 4000000 in
theorem awake_any (w : World) (hR : Roots w) : Calls Tryd.prog 12 #[] w fun e w' => e = .returned (.bool true) ∧ Below w.heap.size w w' := by
  have HR := Lib.hid hR
  obtain ⟨m, hm1, hm2, hm3, hm4, hm5, hm6, hm7, hm8, hm9, hm10, hm11⟩ := ten
  have HM := Lib.hid (And.intro hm1 (And.intro hm2 (And.intro hm3 (And.intro hm4 (And.intro hm5 (And.intro hm6 (And.intro hm7 (And.intro hm8 (And.intro hm9 (And.intro hm10 hm11))))))))))
  have HZ := Lib.hid (bld_zero (img := []) (c := 4) rfl)
  have HCK := Lib.hid (Mf.chk_zero hm3)
  clear hR hm1 hm2 hm3 hm4 hm5 hm6 hm7 hm8 hm9 hm10 hm11
  have kc := fun (w : World) (C : Array Value) (n c : Nat) => Lib.run_convert_bytes_const (P := Tryd.prog) w 23 5 C n c Tryd.underlying23 Tryd.underlying5
  go_enter Tryd.func12, Tryd.ntmps12
  go_wp2_with fail
  have hb1 := below_alloc w (.cells (nums digits).toArray 5 (10, 11))
  have ht1 := txt_new (w := w) (t := 5) (fr := (10, 11)) (l := digits) (n := 10) (fun _ => True) trivial (fun x hx => by simp [digits] at hx; omega) rfl
  refine (build_any (img := digits) (ch := 4) ht1 ⟨by decide, by decide⟩ (by omega) (HR.out.below hb1 HR.out.two)).mono ?_
  rintro e w2 ⟨⟨v, rfl, hmv⟩, hb2⟩
  rw [HM.out.1] at hmv
  rw [HM.out.2.1]
  have HB2 := Lib.hid (hb1.trans (hb2.mono (by rw [size_alloc]; omega)))
  obtain ⟨P, rfl, hPs, hPa⟩ := mv_agg hmv
  have HP := Lib.hid (has_put hmv zm)
  have HB3 := Lib.hid (show Below w.heap.size w ((w2.alloc (.cells zm 27)).setRow w2.heap.size P) from put_below HB2.out HB2.out.size)
  clear hb1 ht1 hb2 hmv HB2
  go_wp2_with (first | ((with_reducible show wpList _ _ _ ((⟨_, Op.store 27 _ _, _, _, _, _⟩ : Oper) :: _) _ _); rw [zeroM, show (mcs 0 0 (.slice none 0 0) (zs 32)).toArray = zm from rfl]; refine wpList_store_row rfl _ (.tmp 1) (.tmp 16) rfl w2.heap.size P rfl rfl 27 _ (Whole.new w2 _ _) (by rw [hPs]; exact info35) (by rw [hPs]; rfl) hPa ?_) | ((with_reducible show wpList _ _ _ ((⟨_, Op.load 27 (.tmp 1), _, _, _, _⟩ : Oper) :: _) _ _); refine has_load HP.out (by rfl) (.tmp 1) rfl rfl ?_))
  generalize (w2.alloc (.cells zm 27)).setRow w2.heap.size P = w3 at *
  generalize w2.heap.size = A at *
  refine (part_any HP.out.2 (i := 2) ⟨by decide, by decide⟩).mono ?_
  rintro e w4 ⟨rfl, hb4⟩
  rw [HM.out.2.2.2.2.1, HM.out.2.2.2.2.2.1]
  have HP4 := Lib.hid (HP.out.below hb4)
  have HB4 := Lib.hid (HB3.out.trans (hb4.mono HB3.out.size))
  clear hb4 HP HB3
  go_wp2_with fail
  refine (build_any (img := []) (ch := 4) (Txt.nil w4 (fun _ => True) none 0) ⟨by decide, by decide⟩ (by omega) (HR.out.below HB4.out HR.out.two)).mono ?_
  rintro e w5 ⟨⟨v5, rfl, hmv5⟩, hb5⟩
  rw [HZ.out.2]
  obtain ⟨P0, rfl, hP0s, hP0a⟩ := mv_agg hmv5
  have HB5 := Lib.hid (HB4.out.trans (hb5.mono HB4.out.size))
  have HP5 := HP4.out.below hb5
  have HP6 := Lib.hid (HP5.below (put_below (T := 27) (z := zm) (N := P0) (Below.refl w5.heap.size w5) (Nat.le_refl _)))
  have HB6 := Lib.hid (show Below w.heap.size w ((w5.alloc (.cells zm 27)).setRow w5.heap.size P0) from put_below HB5.out HB5.out.size)
  clear hmv5 hb5 HP4 HB4 HP5 HB5
  go_wp2_with (first | ((with_reducible show wpList _ _ _ ((⟨_, Op.store 27 _ _, _, _, _, _⟩ : Oper) :: _) _ _); rw [zeroM, show (mcs 0 0 (.slice none 0 0) (zs 32)).toArray = zm from rfl]; refine wpList_store_row rfl _ (.tmp 5) (.tmp 25) rfl w5.heap.size P0 rfl rfl 27 _ (Whole.new w5 _ _) (by rw [hP0s]; exact info35) (by rw [hP0s]; rfl) hP0a ?_) | ((with_reducible show wpList _ _ _ ((⟨_, Op.load 27 (.tmp 1), _, _, _, _⟩ : Oper) :: _) _ _); refine has_load HP6.out (by rfl) (.tmp 1) rfl rfl ?_))
  generalize (w5.alloc (.cells zm 27)).setRow w5.heap.size P0 = w6 at *
  refine (encode_any HP6.out.2).mono ?_
  rintro e w7 ⟨hd, hb7⟩
  rcases hd with ⟨hbad, _⟩ | ⟨_, aB, nB, cB, rfl, htB⟩
  · exact absurd hbad HM.out.2.2.1
  obtain rfl : nB = 130 := by rw [← htB.1]; exact HM.out.2.2.2.2.2.2.1
  have HP7 := Lib.hid (HP6.out.below hb7)
  have HB7 := Lib.hid (HB6.out.trans (hb7.mono HB6.out.size))
  have HTB := Lib.hid htB
  clear hb7 htB HP6 HB6
  go_wp2_with fail
  refine (decode_any HTB.out (by omega)).mono ?_
  rintro e w8 ⟨hd, hb8⟩
  obtain ⟨v9, rfl, hmv9⟩ : ∃ v, e = .returned (.tuple #[v, .int .i64 0]) ∧ Mv w8 (w7.heap.size ≤ ·) v m := by
    rcases hd with ⟨v9, m', hdec, rfl, h⟩ | ⟨hdec, _⟩
    · rw [HM.out.2.2.2.2.2.2.2.1] at hdec; injection hdec with hdec; subst hdec; exact ⟨v9, rfl, h⟩
    · rw [HM.out.2.2.2.2.2.2.2.1] at hdec; cases hdec
  obtain ⟨P9, rfl, hP9s, hP9a⟩ := mv_agg hmv9
  have HP8 := HP7.out.below hb8
  have HB8 := HB7.out.trans (hb8.mono HB7.out.size)
  have HP9 := Lib.hid (HP8.below (put_below (T := 27) (z := zm) (N := P9) (Below.refl w8.heap.size w8) (Nat.le_refl _)))
  have HQ9 := Lib.hid (has_put hmv9 zm)
  have HB9 := Lib.hid (show Below w.heap.size w ((w8.alloc (.cells zm 27)).setRow w8.heap.size P9) from put_below HB8 HB8.size)
  clear hd hmv9 hb8 HP7 HB7 HP8 HB8 HTB
  go_wp2_with (first | ((with_reducible show wpList _ _ _ ((⟨_, Op.store 27 _ _, _, _, _, _⟩ : Oper) :: _) _ _); rw [zeroM, show (mcs 0 0 (.slice none 0 0) (zs 32)).toArray = zm from rfl]; refine wpList_store_row rfl _ (.tmp 9) (.tmp 35) rfl w8.heap.size P9 rfl rfl 27 _ (Whole.new w8 _ _) (by rw [hP9s]; exact info35) (by rw [hP9s]; rfl) hP9a ?_) | ((with_reducible show wpList _ _ _ ((⟨_, Op.load 27 (.tmp 1), _, _, _, _⟩ : Oper) :: _) _ _); refine has_load HP9.out (by rfl) (.tmp 1) rfl rfl ?_) | ((with_reducible show wpList _ _ _ ((⟨_, Op.load 27 (.tmp 9), _, _, _, _⟩ : Oper) :: _) _ _); refine has_load HQ9.out (by rfl) (.tmp 9) rfl rfl ?_))
  generalize (w8.alloc (.cells zm 27)).setRow w8.heap.size P9 = w9 at *
  generalize w8.heap.size = Q at *
  refine (same_eq HP9.out.2 HQ9.out.2 (by have := HM.out.2.2.2.1; omega)).mono ?_
  rintro e w10 ⟨rfl, hb10⟩
  have HP10 := Lib.hid (HP9.out.below hb10)
  have HB10 := Lib.hid (HB9.out.trans (hb10.mono HB9.out.size))
  obtain ⟨a3, n3, c3, k3, hn3⟩ := has_chunks HP10.out
  obtain rfl : n3 = 3 := by rw [← hn3]; exact HM.out.2.2.2.1
  clear hb10 hn3 HP9 HB9 HQ9
  go_wp2_with (first | ((with_reducible show wpList _ _ _ ((⟨_, Op.load 27 (.tmp 1), _, _, _, _⟩ : Oper) :: _) _ _); refine has_load HP10.out (by rfl) (.tmp 1) rfl rfl ?_) | fail)
  refine (check_any HP10.out.2).mono ?_
  rintro e w11 ⟨rfl, hb11⟩
  rw [HCK.out]
  have HP11 := Lib.hid (HP10.out.below hb11)
  have HB11 := Lib.hid (HB10.out.trans (hb11.mono HB10.out.size))
  clear hb11 HP10 HB10 k3
  go_wp2_with ((with_reducible show wpList _ _ _ ((⟨_, Op.build 27 _, _, _, _, _⟩ : Oper) :: _) _ _); refine wpList_builtG (by rfl) _ rfl _ rfl _ built_nil ?_)
  refine (check_any (zm_mv w11 (fun _ => True))).mono ?_
  rintro e w12 ⟨rfl, hb12⟩
  rw [show Mf.chk Mf.zero = 50 from rfl]
  have HP12 := Lib.hid (HP11.out.below hb12)
  have HB12 := Lib.hid (HB11.out.trans (hb12.mono HB11.out.size))
  clear hb12 HP11 HB11
  go_wp2_with (first | ((with_reducible show wpList _ _ _ ((⟨_, Op.load 27 (.tmp 1), _, _, _, _⟩ : Oper) :: _) _ _); refine has_load HP12.out (by rfl) (.tmp 1) rfl rfl ?_) | fail)
  have ha := below_alloc w12 (.cells (nums [48, 49, 50, 51]).toArray 5 (4, 5))
  have hT := txt_new (w := w12) (t := 5) (fr := (4, 5)) (l := [48, 49, 50, 51]) (n := 4) (fun _ => True) trivial (fun x hx => by simp at hx; omega) rfl
  have HPx := HP12.out.below ha
  have HBx := HB12.out.trans (ha.mono HB12.out.size)
  have HRx := HR.out.below HBx HR.out.two
  refine (verify_any HPx.2 (i := 0) ⟨by decide, by decide⟩ hT (by omega) HRx).mono ?_
  rintro e w13 ⟨rfl, hb⟩
  rw [HM.out.2.2.2.2.2.2.2.2.1]
  have HP13 := Lib.hid (HPx.below hb)
  have HB13 := Lib.hid (HBx.trans (hb.mono HBx.size))
  clear ha hT HPx HBx HRx hb HP12 HB12
  go_wp2_with (first | ((with_reducible show wpList _ _ _ ((⟨_, Op.load 27 (.tmp 1), _, _, _, _⟩ : Oper) :: _) _ _); refine has_load HP13.out (by rfl) (.tmp 1) rfl rfl ?_) | fail)
  have ha := below_alloc w13 (.cells (nums [48, 49, 50]).toArray 5 (3, 4))
  have hT := txt_new (w := w13) (t := 5) (fr := (3, 4)) (l := [48, 49, 50]) (n := 3) (fun _ => True) trivial (fun x hx => by simp at hx; omega) rfl
  have HPx := HP13.out.below ha
  have HBx := HB13.out.trans (ha.mono HB13.out.size)
  have HRx := HR.out.below HBx HR.out.two
  refine (verify_any HPx.2 (i := 0) ⟨by decide, by decide⟩ hT (by omega) HRx).mono ?_
  rintro e w14 ⟨rfl, hb⟩
  rw [HM.out.2.2.2.2.2.2.2.2.2.1]
  have HP14 := Lib.hid (HPx.below hb)
  have HB14 := Lib.hid (HBx.trans (hb.mono HBx.size))
  clear ha hT HPx HBx HRx hb HP13 HB13
  go_wp2_with (first | ((with_reducible show wpList _ _ _ ((⟨_, Op.load 27 (.tmp 1), _, _, _, _⟩ : Oper) :: _) _ _); refine has_load HP14.out (by rfl) (.tmp 1) rfl rfl ?_) | fail)
  have ha := below_alloc w14 (.cells (nums digits).toArray 5 (10, 11))
  have hT := txt_new (w := w14) (t := 5) (fr := (10, 11)) (l := digits) (n := 10) (fun _ => True) trivial (fun x hx => by simp [digits] at hx; omega) rfl
  have HPx := HP14.out.below ha
  have HBx := HB14.out.trans (ha.mono HB14.out.size)
  have HRx := HR.out.below HBx HR.out.two
  refine (whole_any HPx.2 hT (by omega) HRx).mono ?_
  rintro e w15 ⟨rfl, hb⟩
  rw [HM.out.2.2.2.2.2.2.2.2.2.2]
  have HP15 := Lib.hid (HPx.below hb)
  have HB15 := Lib.hid (HBx.trans (hb.mono HBx.size))
  clear ha hT HPx HBx HRx hb HP14 HB14
  go_wp2
  go_ret
  exact ⟨rfl, HB15.out⟩
theorem names_walk (w : World) (hR : Roots w) : Calls Tryd.prog 3 #[] w fun e w' => e = .returned (.bool true) ∧ Below w.heap.size w w' := by
  have HR := Lib.hid hR
  clear hR
  go_enter Tryd.func3, Tryd.ntmps3
  go_wp2_with (go_at_call 12; refine (awake_any _ HR.out).mono ?_; rintro e w' ⟨rfl, hb⟩; have HB := Lib.hid hb; clear hb)
  go_ret
  exact ⟨rfl, HB.out⟩
end Go.Proofs.YtdjibhpjdhpcgaaDoor
