/-
  The walks of read and Decode.
  The walk of Decode.
  The walk of awake; and of ManifestNames.
  The walks of the document's hash and Decode.
  A manifest that came in.
-/
import Derived.Test.YtcfchkffanfehaaZp
import Derived.Test.YtcfchkffanfehaaZr
import Derived.Lib.SlBytesConst
import Derived.Test.YtcfchkffanfehaaZh
import Derived.Deep.Slices
import Derived.ChangeSlices
import Derived.ChangeOld
import Derived.ProofKit
import Derived.OpenShut
set_option maxRecDepth 20000
namespace Mf
open Go.Proofs.Ytcfchkffanfehaa
/-- What is read of 32 bytes: the digest, the rest, and whether the reader gave up. -/
def hstep (l : List Int) (gv : Bool) : List Int × List Int × Bool := if 32 ≤ l.length then (l.take 32, l.drop 32, gv) else (zs 32, [], true)
def hs (q : List Int) : Nat → List (List Int) × List Int × Bool
  | 0 => ([], q, false)
  | k + 1 => ((hs q k).1 ++ [(hstep (hs q k).2.1 (hs q k).2.2).1], (hstep (hs q k).2.1 (hs q k).2.2).2)
theorem hs_zero (q : List Int) : hs q 0 = ([], q, false) := rfl
theorem hs_succ (q : List Int) (k : Nat) : hs q (k + 1) = ((hs q k).1 ++ [(hstep (hs q k).2.1 (hs q k).2.2).1], (hstep (hs q k).2.1 (hs q k).2.2).2) := rfl
theorem hs_len (q : List Int) (k : Nat) : (hs q k).1.length = k := by
  induction k with
  | zero => rfl
  | succ k ih => rw [hs_succ]; simp [ih]
theorem hstep_ok {l : List Int} {gv : Bool} (h : Byt l) : Dig (hstep l gv).1 ∧ Byt (hstep l gv).2.1 := by
  unfold hstep
  split
  · exact ⟨⟨by simp; omega, byt_take h 32⟩, byt_drop h 32⟩
  · exact ⟨⟨rfl, byt_zeros 32⟩, byt_nil⟩
theorem hs_dig {q : List Int} (h : Byt q) (k : Nat) : (∀ d ∈ (hs q k).1, Dig d) ∧ Byt (hs q k).2.1 := by
  induction k with
  | zero => exact ⟨(fun d hd => by cases hd), h⟩
  | succ k ih =>
    rw [hs_succ]
    have hh := hstep_ok (gv := (hs q k).2.2) ih.2
    refine ⟨fun d hd => ?_, hh.2⟩
    rcases List.mem_append.1 hd with hd | hd
    · exact ih.1 d hd
    · simp at hd; rw [hd]; exact hh.1
theorem hs_ok {q : List Int} (k : Nat) (h : 32 * k ≤ q.length) : hs q k = (cut q k, q.drop (32 * k), false) := by
  induction k with
  | zero => simp [hs_zero, cut]
  | succ k ih =>
    rw [hs_succ, ih (by omega)]
    unfold hstep
    simp only
    rw [if_pos (by rw [List.length_drop]; omega), cut_succ, List.drop_drop]
    rfl
theorem hs_bad {q : List Int} (k : Nat) (h : q.length < 32 * k) : (hs q k).2 = ([], true) := by
  induction k with
  | zero => omega
  | succ k ih =>
    rw [hs_succ]
    by_cases hk : 32 * k ≤ q.length
    · rw [hs_ok k hk]
      unfold hstep
      simp only
      rw [if_neg (by rw [List.length_drop]; omega)]
    · rw [ih (by omega)]
      rfl
theorem hs_end (q : List Int) (n : Nat) : (q.length = 32 * (n + 1) → Co.doneOf (hs q (n + 1)).2.1 (hs q (n + 1)).2.2 = 0 ∧ (hs q n).1 = cut q n ∧ (hstep (hs q n).2.1 (hs q n).2.2).1 = q.drop (32 * n)) ∧ (q.length ≠ 32 * (n + 1) → Co.doneOf (hs q (n + 1)).2.1 (hs q (n + 1)).2.2 = 20) := by
  refine ⟨fun h => ?_, fun h => ?_⟩
  · rw [hs_ok (n + 1) (by omega), hs_ok n (by omega)]
    refine ⟨?_, rfl, ?_⟩
    · simp only
      rw [List.drop_of_length_le (by omega)]
      rfl
    · unfold hstep
      simp only
      rw [if_pos (by rw [List.length_drop]; omega)]
      exact List.take_of_length_le (by rw [List.length_drop]; omega)
  · by_cases hlt : q.length < 32 * (n + 1)
    · rw [hs_bad (n + 1) hlt]; rfl
    · rw [hs_ok (n + 1) (by omega)]
      simp only
      unfold Co.doneOf
      rw [if_pos]
      refine Or.inr fun e => ?_
      have := congrArg List.length e
      rw [List.length_drop] at this
      simp at this
      omega
/-- A number that is read, or 0 behind bytes that are none. -/
def istep (least most : Int) (l : List Int) (gv : Bool) : Int × List Int × Bool :=
  match Cd.get least most l with
  | some (v, r) => (v, r, gv)
  | none => (0, [], true)
theorem istep_some {least most : Int} {l : List Int} {gv : Bool} {v : Int} {r : List Int} (h : Cd.get least most l = some (v, r)) : istep least most l gv = (v, r, gv) := by unfold istep; rw [h]
theorem istep_none {least most : Int} {l : List Int} {gv : Bool} (h : Cd.get least most l = none) : istep least most l gv = (0, [], true) := by unfold istep; rw [h]
theorem istep_in {least most : Int} {l : List Int} {gv : Bool} (hb : Byt l) : In64 (istep least most l gv).1 ∧ Byt (istep least most l gv).2.1 ∧ (istep least most l gv).2.1.length ≤ l.length := by
  cases h : Cd.get least most l with
  | none => rw [istep_none h]; exact ⟨⟨by show (-9223372036854775808 : Int) ≤ 0; omega, by show (0 : Int) ≤ 9223372036854775807; omega⟩, byt_nil, Nat.zero_le _⟩
  | some x =>
    obtain ⟨v, r⟩ := x
    rw [istep_some h]
    have h1 := Cd.get_enc h hb
    refine ⟨⟨h1.1, h1.2.1⟩, byt_right (a := Cd.num v) (by rw [← h1.2.2.2.2]; exact hb), ?_⟩
    have := congrArg List.length h1.2.2.2.2
    rw [List.length_append] at this
    show r.length ≤ l.length
    omega
theorem dec_steps (l : List Int) : dec l = (match istep 1 65536 l false with | (s, r, g1) => match istep 1 4096 r g1 with | (c, q, _) => decR s c q) := by
  unfold dec
  cases h : Cd.get 1 65536 l with
  | none =>
    rw [istep_none h]
    simp only
    have : Cd.get 1 4096 [] = none := rfl
    rw [istep_none this]
    simp only [decR]
    rw [if_pos (Or.inl (cnt_bad (by omega)))]
  | some x =>
    obtain ⟨s, r⟩ := x
    rw [istep_some h]
    simp only
    cases h2 : Cd.get 1 4096 r with
    | none =>
      rw [istep_none h2]
      simp only [decR]
      rw [if_pos (Or.inl (cnt_bad (by omega)))]
    | some y =>
      obtain ⟨c, q⟩ := y
      rw [istep_some h2]
theorem istep_gv {least most : Int} {l : List Int} {gv : Bool} (h : (istep least most l gv).1 ≠ 0) : (istep least most l gv).2.2 = gv := by
  cases h1 : Cd.get least most l with
  | none => rw [istep_none h1] at h; exact absurd rfl h
  | some x => obtain ⟨v, r⟩ := x; rw [istep_some h1]
end Mf
namespace Go.Proofs.Ytcfchkffanfehaa
set_option linter.unusedSimpArgs false
open Go.RowKit
/-- What a panic of must bears. -/
def lostM : List PanicEntry := [{ v := .iface 31 (.int .i64 50), recovered := false }]
theorem mmust_ok (w : World) : Calls Try.prog 71 #[.bool true] w fun e w' => e = .returned (.tuple #[]) ∧ w = w' := by
  go_enter Try.func71, Try.ntmps71
  go_wp2
  go_end0
  exact ⟨rfl, rfl⟩
theorem mmust_no (w : World) : Calls Try.prog 71 #[.bool false] w fun e w' => e = .panicked lostM ∧ w = w' := by
  go_enter Try.func71, Try.ntmps71
  go_wp2
  exact ⟨rfl, rfl, rfl⟩
theorem rint_step {w : World} {g : Nat} {l : List Int} {gave : Bool} (least most : Int) (h : Co.Rd w g l gave) :
    Calls Try.prog 53 #[.pointer (some ⟨g, 0, none⟩), .int .i64 least, .int .i64 most] w fun e w' =>
      e = .returned (.int .i64 (Mf.istep least most l gave).1) ∧ Co.Rd w' g (Mf.istep least most l gave).2.1 (Mf.istep least most l gave).2.2 ∧ w.grownBy w' (some g) := by
  refine (Co.rint_any least most h).mono ?_
  rintro e w' (⟨v, r, ho, rfl, h1, h2⟩ | ⟨ho, rfl, h1, h2⟩)
  · rw [Mf.istep_some ho]; exact ⟨rfl, h1, h2⟩
  · rw [Mf.istep_none ho]; exact ⟨rfl, h1, h2⟩
theorem rhash_step {w : World} {g : Nat} {l : List Int} {gave : Bool} (h : Co.Rd w g l gave) :
    Calls Try.prog 72 #[.pointer (some ⟨g, 0, none⟩)] w fun e w' =>
      e = .returned (.agg (nums (Mf.hstep l gave).1).toArray) ∧ Co.Rd w' g (Mf.hstep l gave).2.1 (Mf.hstep l gave).2.2 ∧ w.grownBy w' (some g) := by
  refine (Co.rhash_any h).mono ?_
  rintro e w' (⟨hl, rfl, h1, h2⟩ | ⟨hl, rfl, h1, h2⟩)
  · unfold Mf.hstep; rw [if_pos hl]; exact ⟨rfl, h1, h2⟩
  · unfold Mf.hstep; rw [if_neg (by omega)]; exact ⟨rfl, h1, h2⟩
/-- What holds while a manifest's digests are read: k of them are appended, j are read. -/
structure Dst (w : World) (B Bo X M g : Nat) (s c : Int) (q : List Int) (k j : Nat) (v : Value) (wr : World) : Prop where
  rd : Co.Rd wr g (Mf.hs q j).2.1 (Mf.hs q j).2.2
  m : Whole wr M 26 (mcs s c v (zs 32)).toArray
  own : wr.ownsRow Bo 24 32 v k (nums (Mf.hs q k).1.flatten)
  x : Whole wr X 26 zm
  b : Below B w wr
  hb : Bo ≤ wr.heap.size
  lt : B ≤ g ∧ g < X ∧ X < M ∧ M < Bo
theorem Dst.below {w : World} {B Bo X M g : Nat} {s c : Int} {q : List Int} {k j : Nat} {v : Value} {wr w' : World} (h : Dst w B Bo X M g s c q k j v wr) (hb : Below wr.heap.size wr w') : Dst w B Bo X M g s c q k j v w' :=
  ⟨h.rd.below hb, h.m.below hb h.m.lt, own_keep h.own (fun b hq => hb.block b (own_lt h.own b hq)), h.x.below hb h.x.lt, h.b.trans (hb.mono (by have := h.lt; have := h.x.lt; omega)), Nat.le_trans h.hb hb.size, h.lt⟩
theorem Dst.hash {w : World} {B Bo X M g : Nat} {s c : Int} {q : List Int} {k j : Nat} {v : Value} {wr w' : World} (h : Dst w B Bo X M g s c q k j v wr) (hr : Co.Rd w' g (Mf.hstep (Mf.hs q j).2.1 (Mf.hs q j).2.2).2.1 (Mf.hstep (Mf.hs q j).2.1 (Mf.hs q j).2.2).2.2)
    (hg : wr.grownBy w' (some g)) : Dst w B Bo X M g s c q k (j + 1) v w' := by
  obtain ⟨l1, l2, l3, l4⟩ := h.lt
  exact ⟨by rw [Mf.hs_succ]; exact hr, h.m.grown hg (by intro e; injection e; omega), own_keep h.own (fun b hq => hg.block b (own_lt h.own b hq) (by intro e; injection e; have := own_ge h.own b hq; omega)), h.x.grown hg (by intro e; injection e; omega), h.b.grown hg (by have := h.m.lt; omega) (fun b hq => by injection hq with hq; omega), Nat.le_trans h.hb hg.size, h.lt⟩
theorem Dst.stored {w : World} {B Bo X M g : Nat} {s c : Int} {q : List Int} {k j : Nat} {v v' : Value} {wr w' : World} (h : Dst w B Bo X M g s c q k j v wr) (hg : wr.grownBy w' v.ownBlock)
    (hown : w'.ownsRow Bo 24 32 v' (k + 1) (nums (Mf.hs q (k + 1)).1.flatten)) : Dst w B Bo X M g s c q (k + 1) j v' (w'.setCell ⟨M, 2, none⟩ v') := by
  obtain ⟨l1, l2, l3, l4⟩ := h.lt
  have hge : ∀ b, v.ownBlock = some b → Bo ≤ b := own_ge h.own
  have far : ∀ p, p < Bo → some p ≠ v.ownBlock := fun p hp e => by have := hge p e.symm; omega
  have hge' : ∀ b, v'.ownBlock = some b → Bo ≤ b := own_ge hown
  obtain ⟨ra, rn, rc, h1, h2⟩ := h.rd
  refine ⟨⟨ra, rn, rc, (h1.keep (hg.block g h1.lt (far g (by omega)))).far (by show g ≠ M; omega) _, ?_⟩, ?_, own_keep hown (fun b hq => Below.heap_setCell w' ⟨M, 2, none⟩ v' b (by have := hge' b hq; show b ≠ M; omega)), (h.x.grown hg (far X (by omega))).far (by show X ≠ M; omega) _, ?_, ?_, h.lt⟩
  · have h3 := h2.weak (S' := (· < g)) (fun b _ hb => hb)
    exact (h3.grown hg (fun b _ hb => far b (by omega))).keep (by simp) (fun b _ hb => Below.heap_setCell w' ⟨M, 2, none⟩ v' b (by show b ≠ M; omega))
  · exact (h.m.grown hg (far M l4)).set 2 v'
  · exact (h.b.grown hg (by have := h.m.lt; omega) (fun b hq => Nat.le_trans (by omega) (hge b hq))).setCell (by show B ≤ M; omega) _
  · have := hg.size; simp; exact Nat.le_trans h.hb this
theorem splice_mcs {s c : Int} {v : Value} {h h' : List Int} (h1 : h.length = 32) (h2 : h'.length = 32) : splice (mcs s c v h) 3 (nums h') = mcs s c v h' := by
  unfold splice mcs
  rw [nums_len, h2]
  have : (nums h).length = 32 := by rw [nums_len, h1]
  simp [this]
theorem Rd_row {w : World} {g M : Nat} {l : List Int} {gv : Bool} (h : Co.Rd w g l gv) (hM : g < M) (cs : Array Value) : Co.Rd (w.setRow M cs) g l gv := by
  obtain ⟨a, n, c, h1, h2⟩ := h
  exact ⟨a, n, c, (setRow_other w M g cs (by omega)).trans h1, h2.keep (by simp [World.setRow]) (fun b _ hb => setRow_other w M b cs (by omega))⟩
/-- What read answers. -/
def Readd (w : World) (B : Nat) (l : List Int) (e : Ending) (w' : World) : Prop :=
  ((∃ v m, Mf.dec l = some m ∧ e = .returned v ∧ Mv w' (B ≤ ·) v m) ∨ (Mf.dec l = none ∧ e = .panicked lostM)) ∧ Below B w w'
set_option maxHeartbeats 8000000 in
theorem read_any {w : World} {B g : Nat} {l : List Int} (hr : Co.Rd w g l false) (hB : B ≤ g) (hbl : Byt l) :
    Calls Try.prog 64 #[.pointer (some ⟨g, 0, none⟩)] w (Readd w B l) := by
  have hgl := hr.lt
  have HD := Lib.hid (Mf.dec_steps l)
  have hi1 := Mf.istep_in (least := 1) (most := 65536) (gv := false) hbl
  have HS1 := Lib.hid (rfl : Mf.istep 1 65536 l false = Mf.istep 1 65536 l false)
  have hrd1 : ∀ {w : World}, Co.Rd w g l false → _ := fun {w} h => rint_step (w := w) 1 65536 h
  obtain ⟨s, r, g1, hs1⟩ : ∃ s r g1, Mf.istep 1 65536 l false = (s, r, g1) := ⟨_, _, _, rfl⟩
  rw [hs1] at HD hi1
  have hi2 := Mf.istep_in (least := 1) (most := 4096) (gv := g1) hi1.2.1
  obtain ⟨c, q, g2, hs2⟩ : ∃ c q g2, Mf.istep 1 4096 r g1 = (c, q, g2) := ⟨_, _, _, rfl⟩
  try simp only at HD hi2
  rw [hs2] at HD hi2
  try simp only at HD
  have HD2 : Hid (Mf.dec l = Mf.decR s c q) := HD
  have HI := Lib.hid (And.intro hi1.1 (And.intro hi2.1 (And.intro hi2.2.1 (show q.length ≤ l.length from Nat.le_trans hi2.2.2 hi1.2.2))))
  have HE1 := Lib.hid hs1
  have HE2 := Lib.hid hs2
  obtain ⟨N, hN⟩ : ∃ N, Mf.cnt s c = N := ⟨_, rfl⟩
  have HN := Lib.hid hN
  have hle : N ≤ 64 := by rw [← hN]; exact Mf.cnt_le s c
  have HG2 : Hid (N ≠ 0 → g2 = false) := Lib.hid (fun h => by
    have hin := Mf.cnt_in (show Mf.cnt s c ≠ 0 by rw [hN]; exact h)
    have e1 : g2 = g1 := by have := Mf.istep_gv (least := 1) (most := 4096) (l := r) (gv := g1) (by rw [hs2]; show c ≠ 0; omega); rw [hs2] at this; exact this
    have e2 : g1 = false := by have := Mf.istep_gv (least := 1) (most := 65536) (l := l) (gv := false) (by rw [hs1]; show s ≠ 0; omega); rw [hs1] at this; exact this
    rw [e1, e2])
  have HR := Lib.hid hr
  have HBL := Lib.hid hbl
  have hmone := mcs_one (s := s) (c := c) (v := .slice none 0 0) (h := zs 32) rfl
  have HMS := Lib.hid (msize (s := s) (c := c) (v := .slice none 0 0) (h := zs 32) rfl)
  clear hr hi1 hi2 hs1 hs2 hrd1 HS1 HD hN hbl
  go_enter Try.func64, Try.ntmps64
  go_wp2_with fail
  rw [zeroM, show (mcs 0 0 (.slice none 0 0) (zs 32)).toArray = zm from rfl]
  have HR1 := Lib.hid (HR.out.below (below_alloc w (.cells zm 26)))
  have HX1 := Lib.hid (Whole.new w 26 zm)
  have HB1 := Lib.hid ((below_alloc w (.cells zm 26)).mono (show B ≤ w.heap.size by omega))
  have hx1 : w.heap.size < (w.alloc (.cells zm 26)).heap.size := HX1.out.lt
  generalize w.alloc (.cells zm 26) = w1 at *
  generalize w.heap.size = X at *
  refine (rint_step 1 65536 HR1.out).mono ?_
  rintro e w2 ⟨rfl, hrd, hgr⟩
  rw [HE1.out] at hrd ⊢
  have HR2 := Lib.hid hrd
  have HX2 := Lib.hid (HX1.out.grown hgr (by intro e; injection e; omega))
  have HB2 := Lib.hid (HB1.out.grown hgr (by omega) (fun b hb => by injection hb with hb; omega))
  clear hrd hgr HR1 HX1 HB1
  try simp only
  go_wp2_with fail
  refine (rint_step 1 4096 HR2.out).mono ?_
  rintro e w3 ⟨rfl, hrd, hgr⟩
  try simp only at hrd
  rw [HE2.out] at hrd ⊢
  have HR3 := Lib.hid hrd
  have HX3 := Lib.hid (HX2.out.grown hgr (by intro e; injection e; omega))
  have HB3 := Lib.hid (HB2.out.grown hgr (by have := HX2.out.lt; omega) (fun b hb => by injection hb with hb; omega))
  have hx3 : X < w3.heap.size := HX3.out.lt
  clear hrd hgr HR2 HX2 HB2 hx1
  try simp only
  obtain ⟨ML, hML⟩ : ∃ ML, mcs s c (.slice none 0 0) (zs 32) = ML := ⟨_, rfl⟩
  have HBT := Lib.hid (built_sz s c)
  have c0 : (mcs s c (.slice none 0 0) (zs 32))[0]? = some (.int .i64 s) := rfl
  have c1 : (mcs s c (.slice none 0 0) (zs 32))[1]? = some (.int .i64 c) := rfl
  rw [hML] at hmone HMS HBT c0 c1
  have HM := Lib.hid hML
  clear hML
  have hMS := HMS.out
  have km4 : Whole ((w3.alloc (.cells zm 26)).setRow w3.heap.size ML.toArray) w3.heap.size 26 ML.toArray := put_row
  have KM4 := Lib.hid km4
  have k0 : ((w3.alloc (.cells zm 26)).setRow w3.heap.size ML.toArray).cell? ⟨w3.heap.size, 0, none⟩ = some (.int .i64 s) := by rw [km4.cell, List.getElem?_toArray]; exact c0
  have k1 : ((w3.alloc (.cells zm 26)).setRow w3.heap.size ML.toArray).cell? ⟨w3.heap.size, 1, none⟩ = some (.int .i64 c) := by rw [km4.cell, List.getElem?_toArray]; exact c1
  clear km4
  by_cases hz : N = 0
  · have d0 : decide ((0 : Int) < (N : Int)) = false := decide_eq_false (by omega)
    have d0n : decide (0 < N) = false := decide_eq_false (by omega)
    have HDN : Hid (Mf.dec l = none) := Lib.hid (by rw [HD2.out]; unfold Mf.decR; rw [if_pos (Or.inl (by rw [HN.out]; exact hz))])
    go_wp2_with (first
      | ((with_reducible show wpList _ _ _ ((⟨_, Op.build 26 _, _, _, _, _⟩ : Oper) :: _) _ _); refine wpList_built rfl _ rfl _ rfl ML HBT.out ?_)
      | ((with_reducible show wpList _ _ _ ((⟨_, Op.store 26 _ _, _, _, _, _⟩ : Oper) :: _) _ _); rw [zeroM, show (mcs 0 0 (.slice none 0 0) (zs 32)).toArray = zm from rfl]; refine wpList_store_row rfl _ (.tmp 3) (.tmp 9) rfl w3.heap.size ML.toArray rfl rfl 26 _ (Whole.new w3 _ _) (by rw [hMS]; exact info35) (by rw [hMS]; rfl) hmone ?_)
      | (go_at_call 59; refine (count_any _ _ _ HI.out.1 HI.out.2.1).mono ?_; rintro e w5 ⟨rfl, rfl⟩; rw [HN.out])
      | (go_at_call 71; refine (mmust_no _).mono ?_; rintro e w5 ⟨rfl, rfl⟩))
    exact ⟨rfl, Or.inr ⟨HDN.out, rfl⟩, put_below HB3.out (by omega)⟩
  · have d0 : decide ((0 : Int) < (N : Int)) = true := decide_eq_true (by omega)
    have d0n : decide (0 < N) = true := decide_eq_true (by omega)
    have hg2 := HG2.out hz
    subst hg2
    go_wp2_with (first
      | ((with_reducible show wpList _ _ _ ((⟨_, Op.build 26 _, _, _, _, _⟩ : Oper) :: _) _ _); refine wpList_built rfl _ rfl _ rfl ML HBT.out ?_)
      | ((with_reducible show wpList _ _ _ ((⟨_, Op.store 26 _ _, _, _, _, _⟩ : Oper) :: _) _ _); rw [zeroM, show (mcs 0 0 (.slice none 0 0) (zs 32)).toArray = zm from rfl]; refine wpList_store_row rfl _ (.tmp 3) (.tmp 9) rfl w3.heap.size ML.toArray rfl rfl 26 _ (Whole.new w3 _ _) (by rw [hMS]; exact info35) (by rw [hMS]; rfl) hmone ?_)
      | (go_at_call 59; refine (count_any _ _ _ HI.out.1 HI.out.2.1).mono ?_; rintro e w5 ⟨rfl, rfl⟩; rw [HN.out])
      | (go_at_call 71; refine (mmust_ok _).mono ?_; rintro e w5 ⟨rfl, rfl⟩))
    have HD0 : Hid (Dst w B ((w3.alloc (.cells zm 26)).setRow w3.heap.size ML.toArray).heap.size X w3.heap.size g s c q 0 0 (.slice none 0 0) ((w3.alloc (.cells zm 26)).setRow w3.heap.size ML.toArray)) := Lib.hid
      ⟨HR3.out.below (put_below (Below.refl _ _) (Nat.le_refl _)), by rw [HM.out]; exact KM4.out, World.ownsRow_nil _ _ _ _, put_far HX3.out, put_below HB3.out (by omega), Nat.le_refl _, ⟨hB, hgl, hx3, by rw [put_size]; omega⟩⟩
    clear k0 k1 KM4 HX3 HB3 HR3 hmone HMS hMS c0 c1 HM HBT
    generalize (w3.alloc (.cells zm 26)).setRow w3.heap.size ML.toArray = w4 at *
    generalize w3.heap.size = M at *
    generalize w4.heap.size = Bo at *
    go_wp2
    go_loopw [19] (fun i wr => ∃ (k : Nat) (v : Value), k ≤ N ∧ i = .int .i64 (k : Int) ∧ Hid (Dst w B Bo X M g s c q k k v wr)) (fun i _ => N - (intOf i).toNat)
    case atStart => exact ⟨0, _, Nat.zero_le _, rfl, HD0⟩
    case round =>
      clear HD0
      obtain ⟨k, v, hk, rfl, HK⟩ := hrel
      obtain ⟨vq, cap, rfl⟩ := Co.own_form HK.out.own
      by_cases hlt : k < N
      · have HB0 := Lib.hid (HK.out.below (w' := wr.drew) (Below.refl _ _).drew)
        have x0 : wr.drew.cell? ⟨M, 2, none⟩ = some (.slice vq k cap) := HB0.out.m.cell 2
        have HDG := Lib.hid (Mf.hstep_ok (gv := (Mf.hs q k).2.2) (Mf.hs_dig HI.out.2.2.1 k).2)
        have HFL : Hid ((Mf.hs q (k + 1)).1.flatten = (Mf.hs q k).1.flatten ++ (Mf.hstep (Mf.hs q k).2.1 (Mf.hs q k).2.2).1) := Lib.hid (by rw [Mf.hs_succ]; simp)
        clear HK
        go_wp2
        refine wp_region_held_drew (S := fun _ => True) (by kernel_rfl) trivial (fun hHeld => ?_)
        generalize wr.drew = v0 at *
        refine wpAnyH_take (i := 0) (v := .pointer (some ⟨M, 2, none⟩)) rfl (by kernel_rfl) (by kernel_rfl) (by kernel_rfl) (fun _ _ _ h => h) (Or.inl ⟨by rfl, (by intro w hSw; (try dsimp only at hSw); go_simp)⟩) (by assumption) ?_
        try simp only [Act.put, List.getElem_toArray, List.getElem_cons_zero, List.getElem_cons_succ, List.setIfInBounds_toArray, List.set_cons_zero, List.set_cons_succ]
        refine wpAnyH_take (i := 2) (v := .pointer (some ⟨g, 0, none⟩)) rfl (by kernel_rfl) (by kernel_rfl) (by kernel_rfl) (fun _ _ _ h => h) (Or.inl ⟨by rfl, (by intro w hSw; (try dsimp only at hSw); go_simp)⟩) (by assumption) ?_
        try simp only [Act.put, List.getElem_toArray, List.getElem_cons_zero, List.getElem_cons_succ, List.setIfInBounds_toArray, List.set_cons_zero, List.set_cons_succ]
        refine wpAnyH_ready (rs := [1, 3]) (by kernel_rfl) (by simp) (AllReadyH.cons rfl (fun K hK => ?_) (AllReadyH.cons rfl (fun K hK => ?_) AllReadyH.nil))
        · skip
          try simp only [List.getElem_toArray, List.getElem_cons_zero, List.getElem_cons_succ]
          go_simp
          refine hK.out _ _ trivial (fun hHeld => ?_)
          clear hK K
          try simp only [Act.put, List.getElem_toArray, List.getElem_cons_zero, List.getElem_cons_succ, List.setIfInBounds_toArray, List.set_cons_zero, List.set_cons_succ]
          refine wpAnyH_ready (rs := [3]) (by kernel_rfl) (by simp) (AllReadyH.cons rfl (fun K hK => ?_) AllReadyH.nil)
          try simp only [List.getElem_toArray, List.getElem_cons_zero, List.getElem_cons_succ]
          go_simp
          go_at_call 72
          refine (rhash_step HB0.out.rd).mono ?_
          rintro e v1 ⟨rfl, hrd, hgr⟩
          have HB1 := Lib.hid (HB0.out.hash hrd hgr)
          have x1 : v1.cell? ⟨M, 2, none⟩ = some (.slice vq k cap) := HB1.out.m.cell 2
          clear hrd hgr
          go_wp2_with fail
          refine hK.out _ _ trivial (fun hHeld => ?_)
          clear hK K
          try simp only [Act.put, List.getElem_toArray, List.getElem_cons_zero, List.getElem_cons_succ, List.setIfInBounds_toArray, List.set_cons_zero, List.set_cons_succ]
          refine wpAnyH_ready (rs := [4]) (by kernel_rfl) (by simp) (AllReadyH.cons rfl (fun K hK => ?_) AllReadyH.nil)
          try simp only [List.getElem_toArray, List.getElem_cons_zero, List.getElem_cons_succ]
          refine if_wanted (by rfl) ?_
          refine wp_buildD 24 rfl _ HDG.out.1.1 rfl ?_
          have HB2 := Lib.hid (HB1.out.below (below_alloc v1 (.cells (nums (Mf.hstep (Mf.hs q k).2.1 (Mf.hs q k).2.2).1).toArray 24)))
          have KD2 := Lib.hid (Whole.new v1 24 (nums (Mf.hstep (Mf.hs q k).2.1 (Mf.hs q k).2.2).1).toArray)
          have x2 : (v1.alloc (.cells (nums (Mf.hstep (Mf.hs q k).2.1 (Mf.hs q k).2.2).1).toArray 24)).cell? ⟨M, 2, none⟩ = some (.slice vq k cap) := HB2.out.m.cell 2
          generalize v1.alloc (.cells (nums (Mf.hstep (Mf.hs q k).2.1 (Mf.hs q k).2.2).1).toArray 24) = v2 at *
          generalize v1.heap.size = DD at *
          refine hK.out _ _ trivial (fun hHeld => ?_)
          clear hK K
          try simp only [Act.put, List.getElem_toArray, List.getElem_cons_zero, List.getElem_cons_succ, List.setIfInBounds_toArray, List.set_cons_zero, List.set_cons_succ]
          refine wpAnyH_ready (rs := [5]) (by kernel_rfl) (by simp) (AllReadyH.cons rfl (fun K hK => ?_) AllReadyH.nil)
          try simp only [List.getElem_toArray, List.getElem_cons_zero, List.getElem_cons_succ]
          refine if_wanted (by rfl) ?_
          refine wp_append_digs _ (.tmp 22) (.tmp 25) rfl Bo _ k _ rfl HB2.out.own (fun _ => True) (some ⟨DD, 0, none⟩) 1 1 [(Mf.hstep (Mf.hs q k).2.1 (Mf.hs q k).2.2).1] rfl (digs_one KD2.out trivial HDG.out.1) (by omega) (by omega) HB2.out.hb ?_
          intro s' v3 hown hg _
          rw [← nums_append, show (Mf.hs q k).1.flatten ++ [(Mf.hstep (Mf.hs q k).2.1 (Mf.hs q k).2.2).1].flatten = (Mf.hs q (k + 1)).1.flatten by rw [HFL.out]; simp] at hown
          have KM := Lib.hid (HB2.out.m.grown hg (fun e => by have h1 := own_ge HB2.out.own _ e.symm; have h2 := HB2.out.lt; omega))
          have x3 : v3.cell? ⟨M, 2, none⟩ = some (.slice vq k cap) := KM.out.cell 2
          have f3 : v3.frozen? ⟨M, 2, none⟩ = false := KM.out.frozen 2
          obtain ⟨q', cap', rfl⟩ := Co.own_form hown
          have HS := Lib.hid (HB2.out.stored hg hown)
          clear hown hg
          refine hK.out _ _ trivial (fun hHeld => ?_)
          clear hK K
          try simp only [Act.put, List.getElem_toArray, List.getElem_cons_zero, List.getElem_cons_succ, List.setIfInBounds_toArray, List.set_cons_zero, List.set_cons_succ]
          refine wpAnyH_take (i := 6) (v := .pointer (some ⟨M, 2, none⟩)) rfl (by kernel_rfl) (by kernel_rfl) (by kernel_rfl) (fun _ _ _ h => h) (Or.inl ⟨by rfl, (by intro w hSw; (try dsimp only at hSw); go_simp)⟩) (by assumption) ?_
          try simp only [Act.put, List.getElem_toArray, List.getElem_cons_zero, List.getElem_cons_succ, List.setIfInBounds_toArray, List.set_cons_zero, List.set_cons_succ]
          refine wpAnyH_ready (rs := [7]) (by kernel_rfl) (by simp) (AllReadyH.cons rfl (fun K hK => ?_) AllReadyH.nil)
          try simp only [List.getElem_toArray, List.getElem_cons_zero, List.getElem_cons_succ]
          go_simp
          refine hK.out _ _ trivial (fun hHeld => ?_)
          clear hK K
          try simp only [Act.put, List.getElem_toArray, List.getElem_cons_zero, List.getElem_cons_succ, List.setIfInBounds_toArray, List.set_cons_zero, List.set_cons_succ]
          refine wpAnyH_done (by kernel_rfl) ?_ _
          generalize v3.setCell ⟨M, 2, none⟩ (.slice q' (k + 1) cap') = w7 at *
          clear x3 f3 KM
          go_wp2
          exact ⟨⟨k + 1, _, by omega, by go_num, HS⟩, by simp [intOf]; omega⟩
        · skip
          try simp only [List.getElem_toArray, List.getElem_cons_zero, List.getElem_cons_succ]
          go_simp
          go_at_call 72
          refine (rhash_step HB0.out.rd).mono ?_
          rintro e v1 ⟨rfl, hrd, hgr⟩
          have HB1 := Lib.hid (HB0.out.hash hrd hgr)
          have x1 : v1.cell? ⟨M, 2, none⟩ = some (.slice vq k cap) := HB1.out.m.cell 2
          clear hrd hgr
          go_wp2_with fail
          refine hK.out _ _ trivial (fun hHeld => ?_)
          clear hK K
          try simp only [Act.put, List.getElem_toArray, List.getElem_cons_zero, List.getElem_cons_succ, List.setIfInBounds_toArray, List.set_cons_zero, List.set_cons_succ]
          refine wpAnyH_ready (rs := [1, 4]) (by kernel_rfl) (by simp) (AllReadyH.cons rfl (fun K hK => ?_) (AllReadyH.cons rfl (fun K hK => ?_) AllReadyH.nil))
          · skip
            try simp only [List.getElem_toArray, List.getElem_cons_zero, List.getElem_cons_succ]
            go_simp
            refine hK.out _ _ trivial (fun hHeld => ?_)
            clear hK K
            try simp only [Act.put, List.getElem_toArray, List.getElem_cons_zero, List.getElem_cons_succ, List.setIfInBounds_toArray, List.set_cons_zero, List.set_cons_succ]
            refine wpAnyH_ready (rs := [4]) (by kernel_rfl) (by simp) (AllReadyH.cons rfl (fun K hK => ?_) AllReadyH.nil)
            try simp only [List.getElem_toArray, List.getElem_cons_zero, List.getElem_cons_succ]
            refine if_wanted (by rfl) ?_
            refine wp_buildD 24 rfl _ HDG.out.1.1 rfl ?_
            have HB2 := Lib.hid (HB1.out.below (below_alloc v1 (.cells (nums (Mf.hstep (Mf.hs q k).2.1 (Mf.hs q k).2.2).1).toArray 24)))
            have KD2 := Lib.hid (Whole.new v1 24 (nums (Mf.hstep (Mf.hs q k).2.1 (Mf.hs q k).2.2).1).toArray)
            have x2 : (v1.alloc (.cells (nums (Mf.hstep (Mf.hs q k).2.1 (Mf.hs q k).2.2).1).toArray 24)).cell? ⟨M, 2, none⟩ = some (.slice vq k cap) := HB2.out.m.cell 2
            generalize v1.alloc (.cells (nums (Mf.hstep (Mf.hs q k).2.1 (Mf.hs q k).2.2).1).toArray 24) = v2 at *
            generalize v1.heap.size = DD at *
            refine hK.out _ _ trivial (fun hHeld => ?_)
            clear hK K
            try simp only [Act.put, List.getElem_toArray, List.getElem_cons_zero, List.getElem_cons_succ, List.setIfInBounds_toArray, List.set_cons_zero, List.set_cons_succ]
            refine wpAnyH_ready (rs := [5]) (by kernel_rfl) (by simp) (AllReadyH.cons rfl (fun K hK => ?_) AllReadyH.nil)
            try simp only [List.getElem_toArray, List.getElem_cons_zero, List.getElem_cons_succ]
            refine if_wanted (by rfl) ?_
            refine wp_append_digs _ (.tmp 22) (.tmp 25) rfl Bo _ k _ rfl HB2.out.own (fun _ => True) (some ⟨DD, 0, none⟩) 1 1 [(Mf.hstep (Mf.hs q k).2.1 (Mf.hs q k).2.2).1] rfl (digs_one KD2.out trivial HDG.out.1) (by omega) (by omega) HB2.out.hb ?_
            intro s' v3 hown hg _
            rw [← nums_append, show (Mf.hs q k).1.flatten ++ [(Mf.hstep (Mf.hs q k).2.1 (Mf.hs q k).2.2).1].flatten = (Mf.hs q (k + 1)).1.flatten by rw [HFL.out]; simp] at hown
            have KM := Lib.hid (HB2.out.m.grown hg (fun e => by have h1 := own_ge HB2.out.own _ e.symm; have h2 := HB2.out.lt; omega))
            have x3 : v3.cell? ⟨M, 2, none⟩ = some (.slice vq k cap) := KM.out.cell 2
            have f3 : v3.frozen? ⟨M, 2, none⟩ = false := KM.out.frozen 2
            obtain ⟨q', cap', rfl⟩ := Co.own_form hown
            have HS := Lib.hid (HB2.out.stored hg hown)
            clear hown hg
            refine hK.out _ _ trivial (fun hHeld => ?_)
            clear hK K
            try simp only [Act.put, List.getElem_toArray, List.getElem_cons_zero, List.getElem_cons_succ, List.setIfInBounds_toArray, List.set_cons_zero, List.set_cons_succ]
            refine wpAnyH_take (i := 6) (v := .pointer (some ⟨M, 2, none⟩)) rfl (by kernel_rfl) (by kernel_rfl) (by kernel_rfl) (fun _ _ _ h => h) (Or.inl ⟨by rfl, (by intro w hSw; (try dsimp only at hSw); go_simp)⟩) (by assumption) ?_
            try simp only [Act.put, List.getElem_toArray, List.getElem_cons_zero, List.getElem_cons_succ, List.setIfInBounds_toArray, List.set_cons_zero, List.set_cons_succ]
            refine wpAnyH_ready (rs := [7]) (by kernel_rfl) (by simp) (AllReadyH.cons rfl (fun K hK => ?_) AllReadyH.nil)
            try simp only [List.getElem_toArray, List.getElem_cons_zero, List.getElem_cons_succ]
            go_simp
            refine hK.out _ _ trivial (fun hHeld => ?_)
            clear hK K
            try simp only [Act.put, List.getElem_toArray, List.getElem_cons_zero, List.getElem_cons_succ, List.setIfInBounds_toArray, List.set_cons_zero, List.set_cons_succ]
            refine wpAnyH_done (by kernel_rfl) ?_ _
            generalize v3.setCell ⟨M, 2, none⟩ (.slice q' (k + 1) cap') = w7 at *
            clear x3 f3 KM
            go_wp2
            exact ⟨⟨k + 1, _, by omega, by go_num, HS⟩, by simp [intOf]; omega⟩
          · skip
            try simp only [List.getElem_toArray, List.getElem_cons_zero, List.getElem_cons_succ]
            refine if_wanted (by rfl) ?_
            refine wp_buildD 24 rfl _ HDG.out.1.1 rfl ?_
            have HB2 := Lib.hid (HB1.out.below (below_alloc v1 (.cells (nums (Mf.hstep (Mf.hs q k).2.1 (Mf.hs q k).2.2).1).toArray 24)))
            have KD2 := Lib.hid (Whole.new v1 24 (nums (Mf.hstep (Mf.hs q k).2.1 (Mf.hs q k).2.2).1).toArray)
            have x2 : (v1.alloc (.cells (nums (Mf.hstep (Mf.hs q k).2.1 (Mf.hs q k).2.2).1).toArray 24)).cell? ⟨M, 2, none⟩ = some (.slice vq k cap) := HB2.out.m.cell 2
            generalize v1.alloc (.cells (nums (Mf.hstep (Mf.hs q k).2.1 (Mf.hs q k).2.2).1).toArray 24) = v2 at *
            generalize v1.heap.size = DD at *
            refine hK.out _ _ trivial (fun hHeld => ?_)
            clear hK K
            try simp only [Act.put, List.getElem_toArray, List.getElem_cons_zero, List.getElem_cons_succ, List.setIfInBounds_toArray, List.set_cons_zero, List.set_cons_succ]
            refine wpAnyH_ready (rs := [1]) (by kernel_rfl) (by simp) (AllReadyH.cons rfl (fun K hK => ?_) AllReadyH.nil)
            try simp only [List.getElem_toArray, List.getElem_cons_zero, List.getElem_cons_succ]
            go_simp
            refine hK.out _ _ trivial (fun hHeld => ?_)
            clear hK K
            try simp only [Act.put, List.getElem_toArray, List.getElem_cons_zero, List.getElem_cons_succ, List.setIfInBounds_toArray, List.set_cons_zero, List.set_cons_succ]
            refine wpAnyH_ready (rs := [5]) (by kernel_rfl) (by simp) (AllReadyH.cons rfl (fun K hK => ?_) AllReadyH.nil)
            try simp only [List.getElem_toArray, List.getElem_cons_zero, List.getElem_cons_succ]
            refine if_wanted (by rfl) ?_
            refine wp_append_digs _ (.tmp 22) (.tmp 25) rfl Bo _ k _ rfl HB2.out.own (fun _ => True) (some ⟨DD, 0, none⟩) 1 1 [(Mf.hstep (Mf.hs q k).2.1 (Mf.hs q k).2.2).1] rfl (digs_one KD2.out trivial HDG.out.1) (by omega) (by omega) HB2.out.hb ?_
            intro s' v3 hown hg _
            rw [← nums_append, show (Mf.hs q k).1.flatten ++ [(Mf.hstep (Mf.hs q k).2.1 (Mf.hs q k).2.2).1].flatten = (Mf.hs q (k + 1)).1.flatten by rw [HFL.out]; simp] at hown
            have KM := Lib.hid (HB2.out.m.grown hg (fun e => by have h1 := own_ge HB2.out.own _ e.symm; have h2 := HB2.out.lt; omega))
            have x3 : v3.cell? ⟨M, 2, none⟩ = some (.slice vq k cap) := KM.out.cell 2
            have f3 : v3.frozen? ⟨M, 2, none⟩ = false := KM.out.frozen 2
            obtain ⟨q', cap', rfl⟩ := Co.own_form hown
            have HS := Lib.hid (HB2.out.stored hg hown)
            clear hown hg
            refine hK.out _ _ trivial (fun hHeld => ?_)
            clear hK K
            try simp only [Act.put, List.getElem_toArray, List.getElem_cons_zero, List.getElem_cons_succ, List.setIfInBounds_toArray, List.set_cons_zero, List.set_cons_succ]
            refine wpAnyH_take (i := 6) (v := .pointer (some ⟨M, 2, none⟩)) rfl (by kernel_rfl) (by kernel_rfl) (by kernel_rfl) (fun _ _ _ h => h) (Or.inl ⟨by rfl, (by intro w hSw; (try dsimp only at hSw); go_simp)⟩) (by assumption) ?_
            try simp only [Act.put, List.getElem_toArray, List.getElem_cons_zero, List.getElem_cons_succ, List.setIfInBounds_toArray, List.set_cons_zero, List.set_cons_succ]
            refine wpAnyH_ready (rs := [7]) (by kernel_rfl) (by simp) (AllReadyH.cons rfl (fun K hK => ?_) AllReadyH.nil)
            try simp only [List.getElem_toArray, List.getElem_cons_zero, List.getElem_cons_succ]
            go_simp
            refine hK.out _ _ trivial (fun hHeld => ?_)
            clear hK K
            try simp only [Act.put, List.getElem_toArray, List.getElem_cons_zero, List.getElem_cons_succ, List.setIfInBounds_toArray, List.set_cons_zero, List.set_cons_succ]
            refine wpAnyH_done (by kernel_rfl) ?_ _
            generalize v3.setCell ⟨M, 2, none⟩ (.slice q' (k + 1) cap') = w7 at *
            clear x3 f3 KM
            go_wp2
            exact ⟨⟨k + 1, _, by omega, by go_num, HS⟩, by simp [intOf]; omega⟩
      · obtain rfl : k = N := by omega
        have HX := Lib.hid (And.intro (Mf.hs_dig HI.out.2.2.1 k) (Mf.hs_end q k))
        have HDG := Lib.hid (Mf.hstep_ok (gv := (Mf.hs q k).2.2) (Mf.hs_dig HI.out.2.2.1 k).2)
        obtain ⟨d, hd⟩ : ∃ d, (Mf.hstep (Mf.hs q k).2.1 (Mf.hs q k).2.2).1 = d := ⟨_, rfl⟩
        rw [hd] at HDG HX
        have hd32 := HDG.out.1.1
        have hnd : (nums d).length = 32 := by rw [nums_len, hd32]
        have HHD := Lib.hid hd
        go_wp2_with fail
        refine (rhash_step HK.out.rd).mono ?_
        rintro e w5 ⟨rfl, hrd, hgr⟩
        have HK5 := Lib.hid (HK.out.hash hrd hgr)
        clear hrd hgr HK
        rw [HHD.out]
        have hlts := HK5.out.lt
        have hM5 := HK5.out.m.lt
        clear hd
        go_wp2_with ((with_reducible show wpList _ _ _ ((⟨_, Op.store 24 _ _, _, _, _, _⟩ : Oper) :: _) _ _); refine wpList_store_part rfl _ (.tmp 31) (.tmp 30) rfl M 3 (nums d) rfl rfl HK5.out.m (by rw [hnd]; exact info32) (nums_one _) (by rw [hnd, mcs_len rfl]; omega) ?_)
        rw [splice_mcs rfl hd32]
        have hrd6 := Rd_row HK5.out.rd (show g < M by omega) (mcs s c (.slice vq k cap) d).toArray
        have km6 := HK5.out.m.row (mcs s c (.slice vq k cap) d).toArray
        have kx6 := HK5.out.x.rowFar (show X ≠ M by omega) (mcs s c (.slice vq k cap) d).toArray
        have kb6 := below_row HK5.out.b (show B ≤ M by omega) (mcs s c (.slice vq k cap) d).toArray
        have ko6 : (w5.setRow M (mcs s c (.slice vq k cap) d).toArray).ownsRow Bo 24 32 (.slice vq k cap) k (nums (Mf.hs q k).1.flatten) := own_keep HK5.out.own (fun b hb => setRow_other w5 M b _ (by have := own_ge HK5.out.own b hb; omega))
        have H6 := Lib.hid (And.intro hrd6 (And.intro km6 (And.intro kx6 (And.intro kb6 ko6))))
        clear hrd6 km6 kx6 kb6 ko6 HK5 hM5
        generalize w5.setRow M (mcs s c (.slice vq k cap) d).toArray = w6 at *
        by_cases hql : q.length = 32 * (k + 1)
        · have hE := HX.out.2.1 hql
          have HDEC : Hid (Mf.dec l = some ⟨s, c, (Mf.hs q k).1, d⟩) := Lib.hid (by
            rw [HD2.out]; unfold Mf.decR
            rw [if_neg (by rw [HN.out]; omega), HN.out, hE.2.1, hE.2.2])
          have HDN := Lib.hid hE.1
          have HDS := Lib.hid HX.out.1.1
          clear hE
          have hPs := msize (s := s) (c := c) (v := .slice vq k cap) hd32
          have hPa := mcs_one (s := s) (c := c) (v := .slice vq k cap) (h := d) rfl
          obtain ⟨P, hP⟩ : ∃ P, (mcs s c (.slice vq k cap) d).toArray = P := ⟨_, rfl⟩
          rw [hP] at hPs hPa H6
          have HP := Lib.hid hP
          clear hP
          have HZS := zm_size
          go_wp2_with (first
            | (go_at_call 57; refine (Co.done_any H6.out.1).mono ?_; rintro e w7 ⟨rfl, rfl⟩; rw [HDN.out])
            | (go_at_call 71; refine (mmust_ok _).mono ?_; rintro e w7 ⟨rfl, rfl⟩)
            | ((with_reducible show wpList _ _ _ ((⟨_, Op.load 26 _, _, _, _, _⟩ : Oper) :: _) _ _); refine wpList_load_row rfl _ (.tmp 3) rfl M rfl 26 P (0, 0) _ H6.out.2.1 Try.underlying26 rfl (by rw [hPs]; exact info35) ?_)
            | ((with_reducible show wpList _ _ _ ((⟨_, Op.store 26 _ _, _, _, _, _⟩ : Oper) :: _) _ _); refine wpList_store_row rfl _ (.tmp 2) (.tmp 36) rfl X P rfl rfl 26 _ H6.out.2.2.1 (by rw [hPs]; exact info35) (by rw [HZS, hPs]) hPa ?_))
          refine bodyPost_ret (results_one_cell rfl _ _ _ _ rfl (loadVar35 (H6.out.2.2.1.row P) hPs)) rfl ?_
          obtain ⟨aq, cq, hq, hqc, hdg⟩ := own_digs H6.out.2.2.2.2 HDS.out (Mf.hs_len q k)
          injection hq with hq1 _ hq3
          subst hq1 hq3
          refine ⟨Or.inl ⟨_, _, HDEC.out, rfl, ?_⟩, below_row H6.out.2.2.2.1 (by omega) _⟩
          refine ⟨vq, k, cap, by rw [← HP.out], hqc, ?_, HDG.out.1, HI.out.1, HI.out.2.1⟩
          exact (hdg.keep (w' := w6.setRow X P) (by simp [World.setRow]) (fun b _ hb => setRow_other w6 X b P (by omega))).weak (fun b _ hb => by show B ≤ b; omega)
        · have HDN := Lib.hid (HX.out.2.2 hql)
          have HDEC : Hid (Mf.dec l = none) := Lib.hid (by
            rw [HD2.out]; unfold Mf.decR
            rw [if_pos (Or.inr (by rw [HN.out]; exact hql))])
          go_wp2_with (first
            | (go_at_call 57; refine (Co.done_any H6.out.1).mono ?_; rintro e w7 ⟨rfl, rfl⟩; rw [HDN.out])
            | (go_at_call 71; refine (mmust_no _).mono ?_; rintro e w7 ⟨rfl, rfl⟩))
          exact ⟨rfl, Or.inr ⟨HDEC.out, rfl⟩, H6.out.2.2.2.1⟩
end Go.Proofs.Ytcfchkffanfehaa
namespace Go.Proofs.Ytcfchkffanfehaa
set_option maxRecDepth 20000
set_option linter.unusedSimpArgs false
open Go.RowKit
theorem results_two_cells {fn : Func} {p q : Tmp} {ty tq : TypeId} (h : fn.results = #[.cell p ty, .cell q tq]) (tmps : Array Value) (P : Program) (w : World) (a b : Addr) {v u : Value} (ht : tmps.getD p undef = .pointer (some a)) (hu : tmps.getD q undef = .pointer (some b))
    (hv : (loadVar ty a).run P w = .ok v w) (hw : (loadVar tq b).run P w = .ok u w) :
    (results fn tmps).run P w = .ok (.tuple #[v, u]) w := by
  simp only [results, h]
  simp only [Array.getD_eq_getD_getElem?] at ht hu
  simp [ht, hu, hv, hw, asAddr]
/-- The deferred function, behind a panic. -/
theorem caughtD (A E : Nat) (older : List PanicEntry) (pv : Value) (w : World) (old : Array Value) (hA : Whole w A 26 old) (ho : old.size = 35) (oe : Value) (hE : Whole w E 31 #[oe]) (hne : A ≠ E) :
    CallsD Try.prog 63 #[.pointer (some ⟨A, 0, none⟩), .pointer (some ⟨E, 0, none⟩)] (.panicking ({ v := .iface 31 pv, recovered := false } :: older)) w fun e u' w' =>
      e = .returned (.tuple #[]) ∧ u' = .panicking ({ v := .iface 31 pv, recovered := true } :: older) ∧ w' = (w.setRow A zm).setCell ⟨E, 0, none⟩ (.int .i64 50) := by
  have hE2 : Whole (w.setRow A zm) E 31 #[oe] := hE.rowFar (Ne.symm hne) _
  have c1 : (w.setRow A zm).cell? ⟨E, 0, none⟩ = some oe := hE2.cell 0
  have f1 : (w.setRow A zm).frozen? ⟨E, 0, none⟩ = false := hE2.frozen 0
  have hall := mcs_one (s := 0) (c := 0) (v := .slice none 0 0) (h := zs 32) rfl
  refine callsD_of_wpS Try.func63 rfl fun c₀ cs hu => ?_
  apply wpS_seq
  apply wpS_region
  simp [wpOpsS, go_sem, recoverD, hu, Try.ntmps63, Exit.thenS]
  refine wpS_cond (t := true) (by simp [Act.eval, Array.replicate]) ?_
  simp only [if_true]
  refine wpS_of_wp ?_
  go_wp2_with (first
    | ((with_reducible show wpList _ _ _ ((⟨_, Op.build 26 _, _, _, _, _⟩ : Oper) :: _) _ _); refine wpList_built rfl _ rfl _ rfl _ built_nil ?_)
    | ((with_reducible show wpList _ _ _ ((⟨_, Op.store 26 _ _, _, _, _, _⟩ : Oper) :: _) _ _); refine wpList_store_row rfl _ (.tmp 0) (.tmp 4) rfl A zm rfl rfl 26 _ hA (by rw [zm_size]; exact info35) (by rw [zm_size]; exact ho) hall ?_))
  exact ⟨rfl, _, rfl, .tuple #[], by simp [results, Try.results63], rfl, rfl, rfl⟩
theorem idleD (A E : Nat) (w : World) :
    CallsD Try.prog 63 #[.pointer (some ⟨A, 0, none⟩), .pointer (some ⟨E, 0, none⟩)] .returning w fun e u' w' => e = .returned (.tuple #[]) ∧ u' = .returning ∧ w' = w := by
  refine callsD_of_wpS Try.func63 rfl fun c₀ cs hu => ?_
  apply wpS_seq
  apply wpS_region
  simp [wpOpsS, go_sem, recoverD, hu, Try.ntmps63, Exit.thenS]
  refine wpS_cond (t := false) (by simp [Act.eval, Array.replicate]) ?_
  simp only [Bool.false_eq_true, if_false]
  refine wpS_of_wp (wp_skip ?_)
  cases c₀
  simp_all [bodyPostS, results, Try.results63]
theorem loadErr {w : World} {b : Nat} {u : Value} (h : Whole w b 31 #[u]) : (loadVar 31 ⟨b, 0, none⟩).run Try.prog w = .ok u w := by
  have hc := h.cell 0
  simp [loadVar, go_sem, hc]
/-- What Decode answers. -/
def Decd (w : World) (l : List Int) (e : Ending) (w' : World) : Prop :=
  ((∃ v m, Mf.dec l = some m ∧ e = .returned (.tuple #[v, .int .i64 0]) ∧ Mv w' (w.heap.size ≤ ·) v m) ∨ (Mf.dec l = none ∧ e = .returned (.tuple #[.agg zm, .int .i64 50]))) ∧ Below w.heap.size w w'
set_option maxHeartbeats 2000000 in
theorem decode_any {w : World} {S : Nat → Prop} {a : Option Addr} {n c : Nat} {l : List Int} (ht : Txt w S a n c l) (hn : n ≤ 1000000) :
    Calls Try.prog 54 #[.slice a n c] w (Decd w l) := by
  have hmf : ∀ (fn : Fn) (first cap : Array Value) (w : World), (Instr.makeFunc fn first cap).run Try.prog w = .ok (.func fn first cap) w := fun _ _ _ _ => rfl
  have HT := Lib.hid ht.old
  have HBY := Lib.hid ht.2.2.1
  clear ht
  go_enter_defers Try.func54, Try.ntmps54
  go_wp2_with fail
  rw [zeroM, show (mcs 0 0 (.slice none 0 0) (zs 32)).toArray = zm from rfl]
  have ka := (Whole.new w 26 zm).alloc (.cells #[.int .i64 0] 31)
  have ke := Whole.new (w.alloc (.cells zm 26)) 31 #[.int .i64 0]
  rw [size_alloc] at ke
  have hb2 := below_two w (.cells zm 26) (.cells #[.int .i64 0] 31)
  generalize (w.alloc (.cells zm 26)).alloc (.cells #[.int .i64 0] 31) = w2 at *
  have HT2 := HT.out.below hb2 (fun b _ h => h)
  refine (Co.new_any HT2 (by omega)).mono ?_
  rintro e w3 ⟨g, rfl, hg, hrd, hb3⟩
  have he2 := ke.lt
  have H3 := Lib.hid (And.intro (ka.below hb3 ka.lt) (And.intro (ke.below hb3 ke.lt) (And.intro (hb2.trans (hb3.mono hb2.size)) hrd)))
  have hgl := hrd.lt
  have hsz3 : w2.heap.size ≤ w3.heap.size := hb3.size
  clear ka ke hb2 HT2 hrd hb3
  go_wp2_with fail
  refine (read_any (B := w2.heap.size) H3.out.2.2.2 hg HBY.out).mono ?_
  rintro e w4 ⟨hd, hb4⟩
  have H4 := Lib.hid (And.intro (H3.out.1.below hb4 (by omega)) (And.intro (H3.out.2.1.below hb4 (by omega)) (H3.out.2.2.1.trans (hb4.mono (by omega)))))
  clear hb4 H3
  rcases hd with ⟨v, m, hdec, rfl, hmv⟩ | ⟨hdec, rfl⟩
  · obtain ⟨am, nm, cm, rfl, hmc, hmd, hmw, hms, hmch⟩ := hmv
    have HMV := Lib.hid (And.intro hmc (And.intro hmd (And.intro hmw (And.intro hms hmch))))
    have hPs := msize (s := m.size) (c := m.chunk) (v := .slice am nm cm) hmw.1
    have hPa := mcs_one (s := m.size) (c := m.chunk) (v := .slice am nm cm) (h := m.wh) rfl
    have HDEC := Lib.hid hdec
    obtain ⟨P, hP⟩ : ∃ P, (mcs m.size m.chunk (.slice am nm cm) m.wh).toArray = P := ⟨_, rfl⟩
    rw [hP] at hPs hPa ⊢
    have HP := Lib.hid hP
    clear hP hmc hmd hmw hms hmch hdec
    have hE5 : Whole (w4.setRow w.heap.size P) (w.heap.size + 1) 31 #[.int .i64 0] := H4.out.2.1.rowFar (by omega) _
    have c5 : (w4.setRow w.heap.size P).cell? ⟨w.heap.size + 1, 0, none⟩ = some (.int .i64 0) := hE5.cell 0
    have f5 : (w4.setRow w.heap.size P).frozen? ⟨w.heap.size + 1, 0, none⟩ = false := hE5.frozen 0
    have HZS := zm_size
    go_wp2_with ((with_reducible show wpList _ _ _ ((⟨_, Op.store 26 _ _, _, _, _, _⟩ : Oper) :: _) _ _); refine wpList_store_row rfl _ (.tmp 2) (.tmp 7) rfl w.heap.size P rfl rfl 26 _ H4.out.1 (by rw [hPs]; exact info35) (by rw [HZS, hPs]) hPa ?_)
    have kA : Whole ((w4.setRow w.heap.size P).setCell ⟨w.heap.size + 1, 0, none⟩ (.int .i64 0)) w.heap.size 26 P := (H4.out.1.row P).far (by show w.heap.size ≠ w.heap.size + 1; omega) _
    have kE : Whole ((w4.setRow w.heap.size P).setCell ⟨w.heap.size + 1, 0, none⟩ (.int .i64 0)) (w.heap.size + 1) 31 #[.int .i64 0] := hE5.set 0 _
    refine leaves_cons (f := 63) (args := #[.pointer (some ⟨w.heap.size, 0, none⟩), .pointer (some ⟨w.heap.size + 1, 0, none⟩)]) (by simp) (by simp [go_sem]) ?_
    refine (idleD _ _ _).mono ?_
    rintro e u' w'' ⟨rfl, rfl, rfl⟩
    refine ⟨_, results_two_cells rfl _ _ _ _ _ rfl rfl (loadVar35 kA hPs) (loadErr kE), Or.inl ⟨_, m, HDEC.out, rfl, ?_⟩, (below_row H4.out.2.2 (Nat.le_refl _) P).setCell (by show w.heap.size ≤ w.heap.size + 1; omega) _⟩
    refine ⟨am, nm, cm, by rw [← HP.out], HMV.out.1, ?_, HMV.out.2.2⟩
    exact (HMV.out.2.1.keep (by simp [World.setRow]) (fun b _ hb => (Below.heap_setCell (w4.setRow w.heap.size P) ⟨w.heap.size + 1, 0, none⟩ _ b (by show b ≠ w.heap.size + 1; omega)).trans (setRow_other w4 w.heap.size b P (by omega)))).weak (fun b _ hb => by show w.heap.size ≤ b; omega)
  · refine leaves_cons (f := 63) (args := #[.pointer (some ⟨w.heap.size, 0, none⟩), .pointer (some ⟨w.heap.size + 1, 0, none⟩)]) (by simp) (by simp [go_sem]) ?_
    refine (caughtD w.heap.size (w.heap.size + 1) [] (.int .i64 50) w4 zm H4.out.1 zm_size (.int .i64 0) H4.out.2.1 (by omega)).mono ?_
    rintro e u' w'' ⟨rfl, rfl, rfl⟩
    have kA : Whole ((w4.setRow w.heap.size zm).setCell ⟨w.heap.size + 1, 0, none⟩ (.int .i64 50)) w.heap.size 26 zm := (H4.out.1.row zm).far (by show w.heap.size ≠ w.heap.size + 1; omega) _
    have kE : Whole ((w4.setRow w.heap.size zm).setCell ⟨w.heap.size + 1, 0, none⟩ (.int .i64 50)) (w.heap.size + 1) 31 #[.int .i64 50] := (H4.out.2.1.rowFar (by omega) zm).set 0 _
    exact ⟨_, results_two_cells rfl _ _ _ _ _ rfl rfl (loadVar35 kA zm_size) (loadErr kE), Or.inr ⟨hdec, rfl⟩, (below_row H4.out.2.2 (Nat.le_refl _) zm).setCell (by show w.heap.size ≤ w.heap.size + 1; omega) _⟩
end Go.Proofs.Ytcfchkffanfehaa
namespace Go.Proofs.Ytcfchkffanfehaa
set_option maxRecDepth 20000
set_option linter.unusedSimpArgs false
open Go.RowKit
/-- The block A holds the manifest m. -/
def Has (w : World) (A : Nat) (P : Array Value) (m : Mf.Man) : Prop := Whole w A 26 P ∧ Mv w (fun b => b < w.heap.size) (.agg P) m
theorem Has.below {w w' : World} {A : Nat} {P : Array Value} {m : Mf.Man} (h : Has w A P m) (hb : Below w.heap.size w w') : Has w' A P m :=
  ⟨h.1.below hb h.1.lt, (h.2.below hb (fun _ _ h => h)).old⟩
theorem mv_agg {w : World} {S : Nat → Prop} {v : Value} {m : Mf.Man} (h : Mv w S v m) : ∃ P : Array Value, v = .agg P ∧ P.size = 35 ∧ P.all (·.oneCell') = true := by
  obtain ⟨a, n, c, rfl, h1, h2, h3, h4⟩ := h
  exact ⟨_, rfl, msize h3.1, mcs_one rfl⟩
/-- A manifest that is laid into a variable of its own. -/
theorem has_put {w : World} {S : Nat → Prop} {P : Array Value} {m : Mf.Man} (h : Mv w S (.agg P) m) (z : Array Value) : Has ((w.alloc (.cells z 26)).setRow w.heap.size P) w.heap.size P m :=
  ⟨put_row, (h.old.below (put_below (Below.refl _ _) (Nat.le_refl _)) (fun _ _ h => h)).old⟩
theorem has_load {w : World} {A : Nat} {P : Array Value} {m : Mf.Man} (h : Has w A P m) {ops : Array Oper} {rest : List Oper} {op : Oper} {a : Act} {Q : Exit → Act → World → Prop} (hgd : Region.wanted op (yielded ops a.tmps) = true) (x : Operand) (ho : op.op = .load 26 x) (hx : a.eval x = .pointer (some ⟨A, 0, none⟩))
    (hn : wpList Try.prog ops Q rest (a.put op.dst (.agg P)) w) : wpList Try.prog ops Q (op :: rest) a w := by
  obtain ⟨P', e, hs, _⟩ := mv_agg h.2
  injection e with e
  subst e
  exact wpList_step fun _ hK => by
    rw [if_pos hgd]
    exact wp_load_row _ x ho A hx 26 P (0, 0) _ h.1 Try.underlying26 rfl (by rw [hs]; exact info35) (hK _ _ hn)
theorem wpList_builtG {ops : Array Oper} {rest : List Oper} {o : Oper} {a : Act} {w : World} {Q : Exit → Act → World → Prop} {ty : TypeId} (hg : Region.wanted o (yielded ops a.tmps) = true) (parts : Array (Nat × Operand)) (ho : o.op = .build ty parts)
    (vs : List (Nat × Value)) (hv : parts.toList.map (fun q => (q.1, a.eval q.2)) = vs) (cells : List Value) (hc : Try.prog.built ty vs = some cells.toArray)
    (h : wpList Try.prog ops Q rest (a.put o.dst (.agg cells.toArray)) w) : wpList Try.prog ops Q (o :: rest) a w := by
  have e : (parts.map fun (i, x) => (i, a.eval x)).toList = vs := by rw [← hv]; simp
  refine wpList_step fun _ hK => ?_
  rw [if_pos hg]
  unfold Oper.wp execOp
  simp only [ho, Sem.run_bind, run_build w ty _ cells.toArray (by rw [e, hc]), Result.andThen_ok]
  exact hK _ _ h
theorem num_one {n : Int} (h0 : 0 ≤ n) (h1 : n ≤ 63) : (Cd.num n).length = 1 := by
  have hf : Cd.fold n / 128 = 0 := by unfold Cd.fold; rw [if_neg (by omega)]; omega
  unfold Cd.num Cd.encU
  rw [hf, Cd.tops_zero]
  rfl
def digits : List Int := [48, 49, 50, 51, 52, 53, 54, 55, 56, 57]
/-- What is known of the manifest of ten bytes. -/
theorem ten : ∃ m : Mf.Man, Mf.bld digits 4 = m ∧ Mf.berr digits 4 = 0 ∧ ¬ m.bad ∧ m.ds.length = 3 ∧ Mf.fr m 2 = 8 ∧ Mf.til m 2 = 10 ∧ (Mf.body m).length = 130 ∧ Mf.dec (Mf.body m) = some m ∧
    Mf.ver m 0 [48, 49, 50, 51] = 0 ∧ Mf.ver m 0 [48, 49, 50] = 51 ∧ Mf.who m digits = 0 := by
  have hc : Mf.cnt ((digits.length : Nat) : Int) 4 = 3 := by decide
  have hne : Mf.cnt ((digits.length : Nat) : Int) 4 ≠ 0 := by rw [hc]; decide
  have hb := bld_made hne
  refine ⟨_, rfl, hb.2, ?_⟩
  rw [hb.1]
  have hbad := Mf.bad_made hne
  have hds : (Mf.made digits 4).ds.length = 3 := by show (Mf.digsTo _ _ (Mf.cnt ((digits.length : Nat) : Int) 4)).length = 3; rw [Mf.digsTo_len, hc]
  have hok : ∀ d ∈ (Mf.made digits 4).ds, Dig d := Mf.digsTo_ok _ _ _
  have hw : Dig (Mf.made digits 4).wh := dig_ok _
  have p2 := part_vals (img := digits) (ch := 4) (N := 3) (k := 2) (ds := (Mf.made digits 4).ds) (wh := (Mf.made digits 4).wh) hc hds (by decide)
  have p0 := part_vals (img := digits) (ch := 4) (N := 3) (k := 0) (ds := (Mf.made digits 4).ds) (wh := (Mf.made digits 4).wh) hc hds (by decide)
  have hoff : ¬ Mf.off (Mf.made digits 4) 0 := by
    intro h
    rcases h with h | h | h
    · exact hbad h
    · omega
    · rw [hds] at h; omega
  have e0 : Mf.fr (Mf.made digits 4) 0 = 0 := p0.1
  have e1 : Mf.til (Mf.made digits 4) 0 = 4 := p0.2.1
  refine ⟨hbad, hds, p2.1, p2.2.1, ?_, Mf.dec_body hbad hok hw, ?_, ?_, ?_⟩
  · rw [Mf.body_len hok hw, hds]
    show (Cd.num 10).length + (Cd.num 4).length + 32 * 4 = 130
    rw [num_one (by omega) (by omega), num_one (by omega) (by omega)]
  · rw [ver_in hoff, e0, e1, if_neg (by decide), if_pos]
    have h1 : (Mf.made digits 4).ds = Mf.digsTo digits 4 3 := by show Mf.digsTo _ _ (Mf.cnt ((digits.length : Nat) : Int) 4) = _; rw [hc]; rfl
    rw [h1]
    rfl
  · rw [ver_in hoff, e0, e1, if_pos (by decide)]
  · rw [who_in hbad, if_neg (by show ¬ ((digits.length : Nat) : Int) ≠ (digits.length : Nat); simp)]
    exact if_pos rfl
theorem has_chunks {w : World} {A : Nat} {P : Array Value} {m : Mf.Man} (h : Has w A P m) : ∃ a n c, w.cell? ⟨A, 2, none⟩ = some (.slice a n c) ∧ m.ds.length = n := by
  obtain ⟨a, n, c, e, h1, h2, _⟩ := h.2
  injection e with e
  subst e
  exact ⟨a, n, c, h.1.cell 2, h2.1⟩
theorem txt_new {w : World} {t : TypeId} {fr : Nat × Nat} {l : List Int} {n : Nat} (S : Nat → Prop) (hS : S w.heap.size) (hb : Byt l) (hn : l.length = n) : Txt (w.alloc (.cells (nums l).toArray t fr)) S (some ⟨w.heap.size, 0, none⟩) n n l := by
  refine ⟨hn, Nat.le_refl _, hb, Or.inr ⟨w.heap.size, 0, rfl, hS, by rw [size_alloc]; omega, fun j hj => ?_⟩⟩
  rw [cell_of_row _ w.heap.size (0 + j) _ t fr (heap_alloc_new w _), Nat.zero_add, List.getElem?_toArray, nums_get _ _ (by omega)]
end Go.Proofs.Ytcfchkffanfehaa
set_option maxRecDepth 20000
namespace Mf
open Go.Proofs.Ytcfchkffanfehaa
theorem getN_some {l r : List Int} {u : Int} (h : Cd.parse l = some (u, r)) : Cd.getN l = (Cd.unfold u.toNat, l.length - r.length) := by unfold Cd.getN; rw [h]
/-- What is decoded, by the document's Get. -/
theorem dec_get {l : List Int} (hb : Byt l) {sz ch : Int} {j k : Nat} (h1 : Cd.getN l = (sz, j)) (h2 : Cd.getN (l.drop j) = (ch, k)) :
    (j = 0 ∨ k = 0 ∨ 65536 < sz ∨ 4096 < ch → dec l = none) ∧
    (¬ (j = 0 ∨ k = 0 ∨ 65536 < sz ∨ 4096 < ch) → j + k ≤ l.length ∧ dec l = decR (max sz 0) (max ch 0) (l.drop (j + k))) := by
  cases e1 : Cd.parse l with
  | none =>
    have hg := Cd.getN_none e1
    rw [hg] at h1
    injection h1 with ha hb'
    have hd : dec l = none := by unfold dec Cd.get; rw [e1]
    exact ⟨fun _ => hd, fun h => absurd (Or.inl hb'.symm) h⟩
  | some x =>
    obtain ⟨u, r⟩ := x
    rw [getN_some e1] at h1
    injection h1 with ha hj
    obtain ⟨_, _, hl⟩ := Cd.parse_enc e1 hb
    have hlen := congrArg List.length hl
    rw [List.length_append] at hlen
    have hdr : l.drop j = r := by
      rw [show j = (Cd.encU u.toNat).length by omega, hl]
      exact List.drop_left
    have hbr : Byt r := byt_right (a := Cd.encU u.toNat) (by rw [← hl]; exact hb)
    have hget : Cd.get 1 65536 l = if 1 ≤ sz ∧ sz ≤ 65536 then some (sz, r) else none := by unfold Cd.get; rw [e1]; simp only [ha]
    rw [hdr] at h2
    cases e2 : Cd.parse r with
    | none =>
      have hg := Cd.getN_none e2
      rw [hg] at h2
      injection h2 with hc hk
      have hd : dec l = none := by
        unfold dec; rw [hget]
        split
        · rfl
        · rename_i s' r' he
          split at he
          · injection he with he
            injection he with _ he
            subst he
            unfold Cd.get; rw [e2]
          · cases he
      exact ⟨fun _ => hd, fun h => absurd (Or.inr (Or.inl hk.symm)) h⟩
    | some y =>
      obtain ⟨v, q⟩ := y
      rw [getN_some e2] at h2
      injection h2 with hc hk
      obtain ⟨_, _, hr⟩ := Cd.parse_enc e2 hbr
      have hlen2 := congrArg List.length hr
      rw [List.length_append] at hlen2
      have hget2 : Cd.get 1 4096 r = if 1 ≤ ch ∧ ch ≤ 4096 then some (ch, q) else none := by unfold Cd.get; rw [e2]; simp only [hc]
      have hdq : l.drop (j + k) = q := by
        rw [← List.drop_drop, hdr, show k = (Cd.encU v.toNat).length by omega]
        conv => lhs; rw [hr]
        exact List.drop_left
      have hdec : dec l = if (1 ≤ sz ∧ sz ≤ 65536) ∧ (1 ≤ ch ∧ ch ≤ 4096) then decR sz ch q else none := by
        unfold dec
        rw [hget]
        by_cases c1 : 1 ≤ sz ∧ sz ≤ 65536
        · rw [if_pos c1]
          simp only
          rw [hget2]
          by_cases c2 : 1 ≤ ch ∧ ch ≤ 4096
          · rw [if_pos c2, if_pos ⟨c1, c2⟩]
          · rw [if_neg c2, if_neg (fun h => c2 h.2)]
        · rw [if_neg c1, if_neg (fun h => c1 h.1)]
      have hp1 := Cd.encU_pos u.toNat
      have hp2 := Cd.encU_pos v.toNat
      refine ⟨fun h => ?_, fun h => ⟨by omega, ?_⟩⟩
      · rw [hdec, if_neg]
        intro hh
        rcases h with h | h | h | h <;> omega
      · rw [hdec, hdq]
        by_cases c1 : 1 ≤ sz
        · by_cases c2 : 1 ≤ ch
          · rw [if_pos ⟨⟨c1, by omega⟩, ⟨c2, by omega⟩⟩, show max sz 0 = sz by omega, show max ch 0 = ch by omega]
          · rw [if_neg (fun h => c2 h.2.1)]
            unfold decR
            rw [if_pos (Or.inl (cnt_bad (by omega)))]
        · rw [if_neg (fun h => c1 h.1.1)]
          unfold decR
          rw [if_pos (Or.inl (cnt_bad (by omega)))]
theorem getN_le {l : List Int} (hb : Byt l) : (Cd.getN l).2 ≤ l.length ∧ In64 (Cd.getN l).1 := by
  cases e1 : Cd.parse l with
  | none => rw [Cd.getN_none e1]; exact ⟨Nat.zero_le _, by show (-9223372036854775808 : Int) ≤ 0; omega, by show (0 : Int) ≤ 9223372036854775807; omega⟩
  | some x =>
    obtain ⟨u, r⟩ := x
    rw [getN_some e1]
    obtain ⟨h1, h2, _⟩ := Cd.parse_enc e1 hb
    exact ⟨Nat.sub_le _ _, Cd.unfold_range (by omega)⟩
end Mf
namespace Go.Proofs.Ytcfchkffanfehaa
set_option linter.unusedSimpArgs false
open Go.RowKit
theorem hash_new {w : World} : Whole ((w.alloc (.cells (nums (zs 32)).toArray 24)).alloc (.cells (nums (zs 32)).toArray 24)) (w.heap.size + 1) 24 (nums (zs 32)).toArray := by
  have h := Whole.new (w.alloc (.cells (nums (zs 32)).toArray 24)) 24 (nums (zs 32)).toArray
  rw [size_alloc] at h
  exact h
theorem out_set (l : List Int) (k : Nat) (hl : l.length = 32) (hk : k < 32) : (nums (l.take k ++ zs (32 - k))).toArray.setIfInBounds k (.int .u8 (l.getD k 0)) = (nums (l.take (k + 1) ++ zs (32 - (k + 1)))).toArray := by
  have e : zs (32 - k) = 0 :: zs (32 - (k + 1)) := by
    unfold zs
    rw [show 32 - k = (32 - (k + 1)) + 1 by omega, List.replicate_succ]
  have hlt : k < l.length := by omega
  have e2 : l.take (k + 1) = l.take k ++ [l.getD k 0] := by
    rw [List.take_succ_eq_append_getElem hlt]
    simp [hlt]
  rw [e, nums_set (l.take k) _ _ _ k (by simp; omega), e2]
  simp
theorem built_z32 : Try.prog.built 24 [] = some (nums (zs 32)).toArray := by kernel_rfl
set_option maxHeartbeats 2000000 in
theorem rh_any {w : World} {S : Nat → Prop} {a : Option Addr} {n c i : Nat} {l : List Int} (ht : Txt w S a n c l) (hi : 32 * i + 32 ≤ n) (hn : n ≤ 1000000) :
    Calls Try.prog 58 #[.slice a n c, .int .i64 (i : Int)] w fun e w' => e = .returned (.agg (nums ((l.drop (32 * i)).take 32)).toArray) ∧ Below w.heap.size w w' := by
  have HT := Lib.hid ht.old
  have HLN := Lib.hid ht.1
  have HBY := Lib.hid ht.2.2.1
  obtain ⟨b, off, rfl, _, _, _⟩ := ht.cell (k := 0) (by omega)
  clear ht
  obtain ⟨p, hp⟩ : ∃ p, (l.drop (32 * i)).take 32 = p := ⟨_, rfl⟩
  have HP := Lib.hid hp
  have hp32 : p.length = 32 := by rw [← hp, List.length_take, List.length_drop, HLN.out]; omega
  have HPL := Lib.hid hp32
  obtain ⟨q, hq⟩ : ∃ q : Nat, 32 * i = q := ⟨_, rfl⟩
  have hq' : (32 : Int) * (i : Int) = (q : Int) := by omega
  have HQ := Lib.hid hq
  have hqn : q + 32 ≤ n := by omega
  have HPQ : Hid (∀ k, k < 32 → l.getD (q + k) 0 = p.getD k 0) := Lib.hid (fun k hk => by
    rw [← hp, hq]
    simp [hk])
  clear hp hq hi hp32
  have hz32 : (nums (zs 32)).toArray.size = 32 := rfl
  have hza := all_nums (zs 32)
  go_enter Try.func58, Try.ntmps58
  go_wp2_with (first
    | ((with_reducible show wpList _ _ _ ((⟨_, Op.build 24 _, _, _, _, _⟩ : Oper) :: _) _ _); refine wpList_built rfl _ rfl _ rfl _ built_z32 ?_)
    | ((with_reducible show wpList _ _ _ ((⟨_, Op.store 24 _ _, _, _, _, _⟩ : Oper) :: _) _ _); rw [zero32z]; refine wpList_store_row rfl _ (.tmp 5) (.tmp 7) rfl (w.heap.size + 1) (nums (zs 32)).toArray rfl rfl 24 _ hash_new (by rw [hz32]; exact info32) rfl hza ?_))
  have kr : Whole (((w.alloc (.cells (nums (zs 32)).toArray 24)).alloc (.cells (nums (zs 32)).toArray 24)).setRow (w.heap.size + 1) (nums (zs 32)).toArray) w.heap.size 24 (nums (zs 32)).toArray := ((Whole.new w 24 (nums (zs 32)).toArray).alloc _).rowFar (by omega) _
  have kh : Whole (((w.alloc (.cells (nums (zs 32)).toArray 24)).alloc (.cells (nums (zs 32)).toArray 24)).setRow (w.heap.size + 1) (nums (zs 32)).toArray) (w.heap.size + 1) 24 (nums (zs 32)).toArray := hash_new.row _
  have hb2 : Below w.heap.size w (((w.alloc (.cells (nums (zs 32)).toArray 24)).alloc (.cells (nums (zs 32)).toArray 24)).setRow (w.heap.size + 1) (nums (zs 32)).toArray) := below_row (below_two w _ _) (by omega) _
  generalize ((w.alloc (.cells (nums (zs 32)).toArray 24)).alloc (.cells (nums (zs 32)).toArray 24)).setRow (w.heap.size + 1) (nums (zs 32)).toArray = w2 at *
  have H0 := Lib.hid (And.intro kr (And.intro kh hb2))
  clear kr kh hb2
  go_loopw [6] (fun x wr => ∃ k : Nat, k ≤ 32 ∧ x = .int .i64 (k : Int) ∧ Hid (Whole wr w.heap.size 24 (nums (zs 32)).toArray ∧ Whole wr (w.heap.size + 1) 24 (nums (p.take k ++ zs (32 - k))).toArray ∧ Below w.heap.size w wr)) (fun x _ => 32 - (intOf x).toNat)
  case atStart => exact ⟨0, Nat.zero_le _, rfl, H0⟩
  case round =>
    clear H0
    obtain ⟨k, hk, rfl, HK⟩ := hrel
    by_cases hlt : k < 32
    · obtain ⟨b', off', e', _, hbl, hc⟩ := HT.out.cell (k := q + k) (by omega)
      injection e' with e'
      injection e' with e1 e2
      subst e1 e2
      have hc2 : wr.cell? ⟨b, off + (q + k), none⟩ = some (.int .u8 (p.getD k 0)) := by
        rw [HK.out.2.2.cell (p := ⟨b, off + (q + k), none⟩) hbl, hc, HPQ.out k hlt]
      have cw : ∃ old, wr.cell? ⟨w.heap.size + 1, k, none⟩ = some (.int .u8 old) := ⟨_, (HK.out.2.1.cell k).trans (by rw [List.getElem?_toArray, nums_get _ _ (by rw [List.length_append, List.length_take, HPL.out, zs_len]; omega)])⟩
      obtain ⟨old, cw⟩ := cw
      have fw : wr.frozen? ⟨w.heap.size + 1, k, none⟩ = false := HK.out.2.1.frozen k
      have HS := Lib.hid (out_set p k HPL.out hlt)
      have hqk : q + k < n := by omega
      clear hc
      generalize p.getD k 0 = x at *
      go_wp2
      exact ⟨⟨k + 1, by omega, by go_num, Lib.hid ⟨HK.out.1.far (by show w.heap.size ≠ w.heap.size + 1; omega) _, by rw [← HS.out]; exact HK.out.2.1.set k _, HK.out.2.2.setCell (by show w.heap.size ≤ w.heap.size + 1; omega) _⟩⟩, by simp [intOf]; omega⟩
    · obtain rfl : k = 32 := by omega
      have HK2 : Hid (Whole wr w.heap.size 24 (nums (zs 32)).toArray ∧ Whole wr (w.heap.size + 1) 24 (nums p).toArray ∧ Below w.heap.size w wr) := Lib.hid (by
        have h := HK.out
        rw [List.take_of_length_le (by rw [HPL.out]; omega), show zs (32 - 32) = [] from rfl, List.append_nil] at h
        exact h)
      have hNs : (nums p).toArray.size = 32 := by rw [List.size_toArray, nums_len, HPL.out]
      have hNa := all_nums p
      have HZ : Hid ((nums (zs 32)).toArray.size = 32) := Lib.hid rfl
      clear HK
      generalize hN : (nums p).toArray = N at *
      have HN := Lib.hid hN
      clear hN
      go_wp2_with (first
        | ((with_reducible show wpList _ _ _ ((⟨_, Op.load 24 _, _, _, _, _⟩ : Oper) :: _) _ _); refine wpList_load_row rfl _ (.tmp 5) rfl (w.heap.size + 1) rfl 24 N (0, 0) _ HK2.out.2.1 und32 rfl (by rw [hNs]; exact info32) ?_)
        | ((with_reducible show wpList _ _ _ ((⟨_, Op.store 24 _ _, _, _, _, _⟩ : Oper) :: _) _ _); refine wpList_store_row rfl _ (.tmp 4) (.tmp 21) rfl w.heap.size N rfl rfl 24 _ HK2.out.1 (by rw [hNs]; exact info32) (by rw [HZ.out, hNs]) hNa ?_))
      refine bodyPost_ret (results_one_cell rfl _ _ _ _ rfl (run_loadVar_row _ _ _ _ _ (0, 0) _ (HK2.out.1.row N) und32 rfl (by rw [hNs]; exact info32))) rfl ?_
      exact ⟨by rw [← HN.out, HP.out], below_row HK2.out.2.2 (Nat.le_refl _) N⟩
/-- What holds while the document's digests are read: k of them are appended. -/
structure Gst (w : World) (Bo X M : Nat) (s c : Int) (wh : List Int) (q : List Int) (k : Nat) (v : Value) (wr : World) : Prop where
  m : Whole wr M 26 (mcs s c v wh).toArray
  own : wr.ownsRow Bo 24 32 v k (nums (Mf.cut q k).flatten)
  x : Whole wr X 26 zm
  b : Below w.heap.size w wr
  hb : Bo ≤ wr.heap.size
  lt : w.heap.size ≤ X ∧ X < M ∧ M < Bo
theorem Gst.below {w : World} {Bo X M : Nat} {s c : Int} {wh q : List Int} {k : Nat} {v : Value} {wr w' : World} (h : Gst w Bo X M s c wh q k v wr) (hb : Below wr.heap.size wr w') : Gst w Bo X M s c wh q k v w' :=
  ⟨h.m.below hb h.m.lt, own_keep h.own (fun b hq => hb.block b (own_lt h.own b hq)), h.x.below hb h.x.lt, h.b.trans (hb.mono h.b.size), Nat.le_trans h.hb hb.size, h.lt⟩
theorem Gst.stored {w : World} {Bo X M : Nat} {s c : Int} {wh q : List Int} {k : Nat} {v v' : Value} {wr w' : World} (h : Gst w Bo X M s c wh q k v wr) (hg : wr.grownBy w' v.ownBlock)
    (hown : w'.ownsRow Bo 24 32 v' (k + 1) (nums (Mf.cut q (k + 1)).flatten)) : Gst w Bo X M s c wh q (k + 1) v' (w'.setCell ⟨M, 2, none⟩ v') := by
  obtain ⟨l2, l3, l4⟩ := h.lt
  have hge : ∀ b, v.ownBlock = some b → Bo ≤ b := own_ge h.own
  have far : ∀ p, p < Bo → some p ≠ v.ownBlock := fun p hp e => by have := hge p e.symm; omega
  have hge' : ∀ b, v'.ownBlock = some b → Bo ≤ b := own_ge hown
  refine ⟨(h.m.grown hg (far M l4)).set 2 v', own_keep hown (fun b hq => Below.heap_setCell w' ⟨M, 2, none⟩ v' b (by have := hge' b hq; show b ≠ M; omega)), (h.x.grown hg (far X (by omega))).far (by show X ≠ M; omega) _, ?_, ?_, h.lt⟩
  · exact (h.b.grown hg h.b.size (fun b hq => Nat.le_trans (by omega) (hge b hq))).setCell (by show w.heap.size ≤ M; omega) _
  · have := hg.size; simp; exact Nat.le_trans h.hb this
set_option maxHeartbeats 8000000 in
theorem rdecode_any {w : World} {S : Nat → Prop} {a : Option Addr} {n c : Nat} {l : List Int} (ht : Txt w S a n c l) (hn : n ≤ 1000000) :
    Calls Try.prog 42 #[.slice a n c] w (Decd w l) := by
  have HT := Lib.hid ht.old
  have HLN := Lib.hid ht.1
  have HBY := Lib.hid ht.2.2.1
  clear ht
  have hg1 := Mf.getN_le HBY.out
  obtain ⟨sz, j, hG1⟩ : ∃ sz j, Cd.getN l = (sz, j) := ⟨_, _, rfl⟩
  rw [hG1] at hg1
  have hjn : j ≤ n := by rw [← HLN.out]; exact hg1.1
  have hg2 := Mf.getN_le (byt_drop HBY.out j)
  obtain ⟨ch, k, hG2⟩ : ∃ ch k, Cd.getN (l.drop j) = (ch, k) := ⟨_, _, rfl⟩
  rw [hG2] at hg2
  have HDG := Lib.hid (Mf.dec_get HBY.out hG1 hG2)
  have HI := Lib.hid (And.intro hg1.2 hg2.2)
  have HG1 := Lib.hid hG1
  have HG2 := Lib.hid hG2
  have hzone := mcs_one (s := 0) (c := 0) (v := .slice none 0 0) (h := zs 32) rfl
  obtain ⟨A1, hA1, HT1⟩ : ∃ A, (∀ w, (Instr.slice 30 (.slice a n c) (some (.int .i64 (j : Int))) none none).run Try.prog w = .ok (.slice A (n - j) (c - j)) w) ∧ Hid (Txt w (fun b => b < w.heap.size) A (n - j) (c - j) (l.drop j)) := ⟨_, slice_from hjn, Lib.hid (HT.out.drop j hjn)⟩
  clear hG1 hG2 hg1 hg2
  go_enter Try.func42, Try.ntmps42
  go_wp2_with fail
  rw [zeroM, show (mcs 0 0 (.slice none 0 0) (zs 32)).toArray = zm from rfl]
  have hb1 := below_alloc w (.cells zm 26)
  have HX1 := Lib.hid (Whole.new w 26 zm)
  have HB1 := Lib.hid hb1
  have hl1 : w.heap.size < (w.alloc (.cells zm 26)).heap.size := HX1.out.lt
  generalize w.alloc (.cells zm 26) = w1 at *
  refine (Co.get_ref (HT.out.below HB1.out (fun _ _ h => h)) hn).mono ?_
  rintro e w2 ⟨rfl, hb2⟩
  rw [HG1.out]
  have HB2 := Lib.hid (HB1.out.trans (hb2.mono HB1.out.size))
  have HX2 := Lib.hid (HX1.out.below hb2 hl1)
  clear hb1 hb2 HB1 HX1
  go_wp2_with fail
  refine (Co.get_ref (HT1.out.below HB2.out (fun _ _ h => h)) (by omega)).mono ?_
  rintro e w3 ⟨rfl, hb3⟩
  rw [HG2.out]
  have HB3 := Lib.hid (HB2.out.trans (hb3.mono HB2.out.size))
  have HX3 := Lib.hid (HX2.out.below hb3 HX2.out.lt)
  clear hb3 HB2 HX2 hl1
  have hend : ∀ (wz : World), wz = w3.setRow w.heap.size zm → Whole wz w.heap.size 26 zm ∧ Below w.heap.size w wz := fun wz e => by
    subst e; exact ⟨HX3.out.row zm, below_row HB3.out (Nat.le_refl _) zm⟩
  have HEND := Lib.hid hend
  clear hend
  by_cases hbad : j = 0 ∨ k = 0 ∨ 65536 < sz ∨ 4096 < ch
  · have HN := Lib.hid (HDG.out.1 hbad)
    by_cases c1 : j = 0
    · have d1 : ((j : Int) == 0) = true := by simp [c1]
      clear hbad
      go_wp2_with (first | ((with_reducible show wpList _ _ _ ((⟨_, Op.build 26 _, _, _, _, _⟩ : Oper) :: _) _ _); refine wpList_built rfl _ rfl _ rfl _ built_nil ?_) | ((with_reducible show wpList _ _ _ ((⟨_, Op.store 26 _ _, _, _, _, _⟩ : Oper) :: _) _ _); refine wpList_store_row rfl _ (.tmp 2) (.tmp 38) rfl w.heap.size zm rfl rfl 26 _ HX3.out (by rw [zm_size]; exact info35) rfl hzone ?_))
      refine bodyPost_ret (results_cell_one rfl _ _ _ _ rfl (loadVar35 (HEND.out _ rfl).1 zm_size)) rfl ?_
      exact ⟨Or.inr ⟨HN.out, rfl⟩, (HEND.out _ rfl).2⟩
    have d1 : ((j : Int) == 0) = false := by simp [c1]
    by_cases c2 : k = 0
    · have d2 : ((k : Int) == 0) = true := by simp [c2]
      clear hbad
      go_wp2_with (first | ((with_reducible show wpList _ _ _ ((⟨_, Op.build 26 _, _, _, _, _⟩ : Oper) :: _) _ _); refine wpList_built rfl _ rfl _ rfl _ built_nil ?_) | ((with_reducible show wpList _ _ _ ((⟨_, Op.store 26 _ _, _, _, _, _⟩ : Oper) :: _) _ _); refine wpList_store_row rfl _ (.tmp 2) (.tmp 38) rfl w.heap.size zm rfl rfl 26 _ HX3.out (by rw [zm_size]; exact info35) rfl hzone ?_))
      refine bodyPost_ret (results_cell_one rfl _ _ _ _ rfl (loadVar35 (HEND.out _ rfl).1 zm_size)) rfl ?_
      exact ⟨Or.inr ⟨HN.out, rfl⟩, (HEND.out _ rfl).2⟩
    have d2 : ((k : Int) == 0) = false := by simp [c2]
    by_cases c3 : 65536 < sz
    · have d3 : decide (65536 < sz) = true := decide_eq_true c3
      clear hbad
      go_wp2_with (first | ((with_reducible show wpList _ _ _ ((⟨_, Op.build 26 _, _, _, _, _⟩ : Oper) :: _) _ _); refine wpList_built rfl _ rfl _ rfl _ built_nil ?_) | ((with_reducible show wpList _ _ _ ((⟨_, Op.store 26 _ _, _, _, _, _⟩ : Oper) :: _) _ _); refine wpList_store_row rfl _ (.tmp 2) (.tmp 38) rfl w.heap.size zm rfl rfl 26 _ HX3.out (by rw [zm_size]; exact info35) rfl hzone ?_))
      refine bodyPost_ret (results_cell_one rfl _ _ _ _ rfl (loadVar35 (HEND.out _ rfl).1 zm_size)) rfl ?_
      exact ⟨Or.inr ⟨HN.out, rfl⟩, (HEND.out _ rfl).2⟩
    have d3 : decide (65536 < sz) = false := decide_eq_false c3
    have c4 : 4096 < ch := by omega
    have d4 : decide (4096 < ch) = true := decide_eq_true c4
    clear hbad
    go_wp2_with (first | ((with_reducible show wpList _ _ _ ((⟨_, Op.build 26 _, _, _, _, _⟩ : Oper) :: _) _ _); refine wpList_built rfl _ rfl _ rfl _ built_nil ?_) | ((with_reducible show wpList _ _ _ ((⟨_, Op.store 26 _ _, _, _, _, _⟩ : Oper) :: _) _ _); refine wpList_store_row rfl _ (.tmp 2) (.tmp 38) rfl w.heap.size zm rfl rfl 26 _ HX3.out (by rw [zm_size]; exact info35) rfl hzone ?_))
    refine bodyPost_ret (results_cell_one rfl _ _ _ _ rfl (loadVar35 (HEND.out _ rfl).1 zm_size)) rfl ?_
    exact ⟨Or.inr ⟨HN.out, rfl⟩, (HEND.out _ rfl).2⟩
  · have HJK := Lib.hid (HDG.out.2 hbad)
    have d1 : ((j : Int) == 0) = false := by simp; omega
    have d2 : ((k : Int) == 0) = false := by simp; omega
    have d3 : decide (65536 < sz) = false := decide_eq_false (by omega)
    have d4 : decide (4096 < ch) = false := decide_eq_false (by omega)
    have hsz : sz ≤ 65536 := by omega
    have hch : ch ≤ 4096 := by omega
    have hjk : j + k ≤ n := by rw [← HLN.out]; exact HJK.out.1
    obtain ⟨J, hJ⟩ : ∃ J, j + k = J := ⟨_, rfl⟩
    have hJ' : (j : Int) + (k : Int) = (J : Int) := by omega
    rw [hJ] at HJK hjk
    obtain ⟨AR, hAR, HTR⟩ : ∃ A, (∀ w, (Instr.slice 30 (.slice a n c) (some (.int .i64 (J : Int))) none none).run Try.prog w = .ok (.slice A (n - J) (c - J)) w) ∧ Hid (Txt w (fun b => b < w.heap.size) A (n - J) (c - J) (l.drop J)) := ⟨_, slice_from hjk, Lib.hid (HT.out.drop J hjk)⟩
    obtain ⟨s0, hs0⟩ : ∃ s0, max sz 0 = s0 := ⟨_, rfl⟩
    obtain ⟨c0, hc0⟩ : ∃ c0, max ch 0 = c0 := ⟨_, rfl⟩
    have hs0' : (if sz < 0 then 0 else sz) = s0 := by rw [← hs0]; split <;> omega
    have hc0' : (if ch < 0 then 0 else ch) = c0 := by rw [← hc0]; split <;> omega
    have hsr : 0 ≤ s0 ∧ s0 ≤ 65536 := by omega
    have hcr : 0 ≤ c0 ∧ c0 ≤ 4096 := by omega
    rw [hs0, hc0] at HJK
    have HS0 := Lib.hid (show 1 ≤ s0 → s0 = sz by omega)
    have HC0 := Lib.hid (show 1 ≤ c0 → c0 = ch by omega)
    clear hbad hJ
    go_wp2_with fail
    obtain ⟨N, hN⟩ : ∃ N, Mf.cnt s0 c0 = N := ⟨_, rfl⟩
    have hle : N ≤ 64 := by rw [← hN]; exact Mf.cnt_le s0 c0
    have HN := Lib.hid hN
    obtain ⟨R, hR⟩ : ∃ R, n - J = R := ⟨_, rfl⟩
    have hRn : R ≤ 1000000 := by omega
    rw [hR] at hAR HTR
    obtain ⟨T, hT⟩ : ∃ T : Nat, 32 * (N + 1) = T := ⟨_, rfl⟩
    have hT1 : (32 : Int) * ((N : Int) + 1) = (T : Int) := by omega
    have hTn : T ≤ 3000 := by omega
    have HTT := Lib.hid hT
    have HRL : Hid ((l.drop J).length = R) := Lib.hid HTR.out.1
    clear hN hR hT hs0 hc0 hs0' hc0'
    refine (chunks_any s0 c0 _ ⟨by omega, by omega⟩ ⟨by omega, by omega⟩).mono ?_
    rintro e w4 ⟨rfl, rfl⟩
    rw [HN.out]
    by_cases hz : N = 0
    · have d5 : ((N : Int) == 0) = true := by simp [hz]
      have HDN : Hid (Mf.dec l = none) := Lib.hid (by rw [HJK.out.2]; unfold Mf.decR; rw [if_pos (Or.inl (by rw [HN.out]; exact hz))])
      go_wp2_with (first | ((with_reducible show wpList _ _ _ ((⟨_, Op.build 26 _, _, _, _, _⟩ : Oper) :: _) _ _); refine wpList_built rfl _ rfl _ rfl _ built_nil ?_) | ((with_reducible show wpList _ _ _ ((⟨_, Op.store 26 _ _, _, _, _, _⟩ : Oper) :: _) _ _); refine wpList_store_row rfl _ (.tmp 2) (.tmp 59) rfl w.heap.size zm rfl rfl 26 _ HX3.out (by rw [zm_size]; exact info35) rfl hzone ?_))
      refine bodyPost_ret (results_cell_one rfl _ _ _ _ rfl (loadVar35 (HEND.out _ rfl).1 zm_size)) rfl ?_
      exact ⟨Or.inr ⟨HDN.out, rfl⟩, (HEND.out _ rfl).2⟩
    have d5 : ((N : Int) == 0) = false := by simp [hz]
    by_cases hq : R = T
    · have d6 : ((R : Int) == (T : Int)) = true := by simp [hq]
      have d7 : (R == T) = true := by simp [hq]
      have d8 : ((R : Int) != (T : Int)) = false := by simp [hq]
      have hin := Mf.cnt_in (show Mf.cnt s0 c0 ≠ 0 by rw [HN.out]; exact hz)
      have es : s0 = sz := HS0.out hin.1
      have ec : c0 = ch := HC0.out hin.2.2.1
      subst es ec
      have HDEC : Hid (Mf.dec l = some ⟨s0, c0, Mf.cut (l.drop J) N, (l.drop J).drop (32 * N)⟩) := Lib.hid (by
        rw [HJK.out.2]; unfold Mf.decR
        rw [if_neg (by rw [HN.out, HRL.out]; have := HTT.out; omega), HN.out])
      have HBR : Hid (Byt (l.drop J)) := Lib.hid (byt_drop HBY.out J)
      generalize l.drop J = q at *
      have hwl : (q.drop (32 * N)).take 32 = q.drop (32 * N) := List.take_of_length_le (by rw [List.length_drop, HRL.out]; have := HTT.out; omega)
      have HWD : Hid (Dig (q.drop (32 * N))) := Lib.hid ⟨by rw [List.length_drop, HRL.out]; have := HTT.out; omega, byt_drop HBR.out _⟩
      have hmone := mcs_one (s := s0) (c := c0) (v := .slice none 0 0) (h := q.drop (32 * N)) rfl
      have hMS := msize (s := s0) (c := c0) (v := .slice none 0 0) HWD.out.1
      have HBT := Lib.hid (built_szw s0 c0 (q.drop (32 * N)) HWD.out.1)
      have HWL := Lib.hid hwl
      have HTR2 : Hid (32 * (N + 1) = R) := Lib.hid (by have := HTT.out; omega)
      clear hwl hin HTT hq
      have HTT := HTR2
      clear HTR2
      obtain ⟨ML, hML⟩ : ∃ ML, mcs s0 c0 (.slice none 0 0) (q.drop (32 * N)) = ML := ⟨_, rfl⟩
      rw [hML] at hmone hMS HBT
      have HM := Lib.hid hML
      clear hML
      go_wp2_with fail
      refine (rh_any (i := N) (HTR.out.below HB3.out (fun _ _ h => h)) (by have := HTT.out; omega) hRn).mono ?_
      rintro e w5 ⟨rfl, hb5⟩
      rw [HWL.out]
      have hlx3 := HX3.out.lt
      have HB5 := Lib.hid (HB3.out.trans (hb5.mono HB3.out.size))
      have HX5 := Lib.hid (HX3.out.below hb5 hlx3)
      have hlx5 : w.heap.size < w5.heap.size := HX5.out.lt
      clear hb5 HB3 HX3 HEND hlx3
      go_wp2_with (first
        | ((with_reducible show wpList _ _ _ ((⟨_, Op.build 26 _, _, _, _, _⟩ : Oper) :: _) _ _); refine wpList_built rfl _ rfl _ rfl ML HBT.out ?_)
        | ((with_reducible show wpList _ _ _ ((⟨_, Op.store 26 _ _, _, _, _, _⟩ : Oper) :: _) _ _); rw [zeroM, show (mcs 0 0 (.slice none 0 0) (zs 32)).toArray = zm from rfl]; refine wpList_store_row rfl _ (.tmp 10) (.tmp 65) rfl w5.heap.size ML.toArray rfl rfl 26 _ (Whole.new w5 _ _) (by rw [hMS]; exact info35) (by rw [hMS]; rfl) hmone ?_))
      have HG0 : Hid (Gst w ((w5.alloc (.cells zm 26)).setRow w5.heap.size ML.toArray).heap.size w.heap.size w5.heap.size s0 c0 (q.drop (32 * N)) q 0 (.slice none 0 0) ((w5.alloc (.cells zm 26)).setRow w5.heap.size ML.toArray)) := Lib.hid
        ⟨by rw [HM.out]; exact put_row, World.ownsRow_nil _ _ _ _, put_far HX5.out, put_below HB5.out HB5.out.size, Nat.le_refl _, ⟨Nat.le_refl _, hlx5, by rw [put_size]; omega⟩⟩
      clear HX5 HB5 hmone hMS HBT HM
      generalize (w5.alloc (.cells zm 26)).setRow w5.heap.size ML.toArray = w6 at *
      generalize w5.heap.size = M at *
      generalize w6.heap.size = Bo at *
      clear hA1 HT1 d1 d2 d3 d4 d5 d6 d7 d8 hJ' hT1 hTn HG1 HG2 HDG HI HJK HS0 HC0 hjk hjn
      go_loopw [11] (fun i wr => ∃ (k : Nat) (v : Value), k ≤ N ∧ i = .int .i64 (k : Int) ∧ Hid (Gst w Bo w.heap.size M s0 c0 (q.drop (32 * N)) q k v wr)) (fun i _ => N - (intOf i).toNat)
      case atStart => exact ⟨0, _, Nat.zero_le _, rfl, HG0⟩
      case round =>
        clear HG0
        obtain ⟨k, v, hk, rfl, HK⟩ := hrel
        obtain ⟨vq, cap, rfl⟩ := Co.own_form HK.out.own
        by_cases hlt : k < N
        · have HB0 := Lib.hid (HK.out.below (w' := wr.drew) (Below.refl _ _).drew)
          have x0 : wr.drew.cell? ⟨M, 2, none⟩ = some (.slice vq k cap) := HB0.out.m.cell 2
          have HDK : Hid (Dig ((q.drop (32 * k)).take 32)) := Lib.hid ⟨by rw [List.length_take, List.length_drop, HRL.out]; have := HTT.out; omega, byt_take (byt_drop HBR.out _) _⟩
          have HFL : Hid ((Mf.cut q (k + 1)).flatten = (Mf.cut q k).flatten ++ (q.drop (32 * k)).take 32) := Lib.hid (by rw [Mf.cut_succ]; simp)
          have h32 : 32 * k + 32 ≤ R := by have := HTT.out; omega
          clear HK
          go_wp2
          refine wp_region_held_drew (S := fun _ => True) (by kernel_rfl) trivial (fun hHeld => ?_)
          generalize wr.drew = v0 at *
          refine wpAnyH_take (i := 0) (v := .pointer (some ⟨M, 2, none⟩)) rfl (by kernel_rfl) (by kernel_rfl) (by kernel_rfl) (fun _ _ _ h => h) (Or.inl ⟨by rfl, (by intro w hSw; (try dsimp only at hSw); go_simp)⟩) (by assumption) ?_
          try simp only [Act.put, List.getElem_toArray, List.getElem_cons_zero, List.getElem_cons_succ, List.setIfInBounds_toArray, List.set_cons_zero, List.set_cons_succ]
          refine wpAnyH_take (i := 2) (v := .slice AR R (c - J)) rfl (by kernel_rfl) (by kernel_rfl) (by kernel_rfl) (fun _ _ _ h => h) (Or.inl ⟨by rfl, (by intro w hSw; (try dsimp only at hSw); go_simp)⟩) (by assumption) ?_
          try simp only [Act.put, List.getElem_toArray, List.getElem_cons_zero, List.getElem_cons_succ, List.setIfInBounds_toArray, List.set_cons_zero, List.set_cons_succ]
          refine wpAnyH_take (i := 3) (v := .int .i64 (k : Int)) rfl (by kernel_rfl) (by kernel_rfl) (by kernel_rfl) (fun _ _ _ h => h) (Or.inl ⟨by rfl, (by intro w hSw; (try dsimp only at hSw); go_simp)⟩) (by assumption) ?_
          try simp only [Act.put, List.getElem_toArray, List.getElem_cons_zero, List.getElem_cons_succ, List.setIfInBounds_toArray, List.set_cons_zero, List.set_cons_succ]
          refine wpAnyH_ready (rs := [1, 4]) (by kernel_rfl) (by simp) (AllReadyH.cons rfl (fun K hK => ?_) (AllReadyH.cons rfl (fun K hK => ?_) AllReadyH.nil))
          · skip
            try simp only [List.getElem_toArray, List.getElem_cons_zero, List.getElem_cons_succ]
            go_simp
            refine hK.out _ _ trivial (fun hHeld => ?_)
            clear hK K
            try simp only [Act.put, List.getElem_toArray, List.getElem_cons_zero, List.getElem_cons_succ, List.setIfInBounds_toArray, List.set_cons_zero, List.set_cons_succ]
            refine wpAnyH_ready (rs := [4]) (by kernel_rfl) (by simp) (AllReadyH.cons rfl (fun K hK => ?_) AllReadyH.nil)
            try simp only [List.getElem_toArray, List.getElem_cons_zero, List.getElem_cons_succ]
            go_simp
            go_at_call 58
            refine (rh_any (HTR.out.below HB0.out.b (fun _ _ h => h)) h32 hRn).mono ?_
            rintro e v1 ⟨rfl, hgr⟩
            have HB1 := Lib.hid (HB0.out.below hgr)
            have x1 : v1.cell? ⟨M, 2, none⟩ = some (.slice vq k cap) := HB1.out.m.cell 2
            clear hgr
            go_wp2_with fail
            refine hK.out _ _ trivial (fun hHeld => ?_)
            clear hK K
            try simp only [Act.put, List.getElem_toArray, List.getElem_cons_zero, List.getElem_cons_succ, List.setIfInBounds_toArray, List.set_cons_zero, List.set_cons_succ]
            refine wpAnyH_ready (rs := [5]) (by kernel_rfl) (by simp) (AllReadyH.cons rfl (fun K hK => ?_) AllReadyH.nil)
            try simp only [List.getElem_toArray, List.getElem_cons_zero, List.getElem_cons_succ]
            refine if_wanted (by rfl) ?_
            refine wp_buildD 75 rfl _ HDK.out.1 rfl ?_
            have HB2 := Lib.hid (HB1.out.below (below_alloc v1 (.cells (nums ((q.drop (32 * k)).take 32)).toArray 24)))
            have KD2 := Lib.hid (Whole.new v1 24 (nums ((q.drop (32 * k)).take 32)).toArray)
            have x2 : (v1.alloc (.cells (nums ((q.drop (32 * k)).take 32)).toArray 24)).cell? ⟨M, 2, none⟩ = some (.slice vq k cap) := HB2.out.m.cell 2
            generalize v1.alloc (.cells (nums ((q.drop (32 * k)).take 32)).toArray 24) = v2 at *
            generalize v1.heap.size = DD at *
            refine hK.out _ _ trivial (fun hHeld => ?_)
            clear hK K
            try simp only [Act.put, List.getElem_toArray, List.getElem_cons_zero, List.getElem_cons_succ, List.setIfInBounds_toArray, List.set_cons_zero, List.set_cons_succ]
            refine wpAnyH_ready (rs := [6]) (by kernel_rfl) (by simp) (AllReadyH.cons rfl (fun K hK => ?_) AllReadyH.nil)
            try simp only [List.getElem_toArray, List.getElem_cons_zero, List.getElem_cons_succ]
            refine if_wanted (by rfl) ?_
            refine wp_append_digs _ (.tmp 72) (.tmp 76) rfl Bo _ k _ rfl HB2.out.own (fun _ => True) (some ⟨DD, 0, none⟩) 1 1 [((q.drop (32 * k)).take 32)] rfl (digs_one KD2.out trivial HDK.out) (by omega) (by omega) HB2.out.hb ?_
            intro s' v3 hown hg _
            rw [← nums_append, show (Mf.cut q k).flatten ++ [((q.drop (32 * k)).take 32)].flatten = (Mf.cut q (k + 1)).flatten by rw [HFL.out]; simp] at hown
            have KM := Lib.hid (HB2.out.m.grown hg (fun e => by have h1 := own_ge HB2.out.own _ e.symm; have h2 := HB2.out.lt; omega))
            have x3 : v3.cell? ⟨M, 2, none⟩ = some (.slice vq k cap) := KM.out.cell 2
            have f3 : v3.frozen? ⟨M, 2, none⟩ = false := KM.out.frozen 2
            obtain ⟨q', cap', rfl⟩ := Co.own_form hown
            have HS := Lib.hid (HB2.out.stored hg hown)
            clear hown hg
            refine hK.out _ _ trivial (fun hHeld => ?_)
            clear hK K
            try simp only [Act.put, List.getElem_toArray, List.getElem_cons_zero, List.getElem_cons_succ, List.setIfInBounds_toArray, List.set_cons_zero, List.set_cons_succ]
            refine wpAnyH_take (i := 7) (v := .pointer (some ⟨M, 2, none⟩)) rfl (by kernel_rfl) (by kernel_rfl) (by kernel_rfl) (fun _ _ _ h => h) (Or.inl ⟨by rfl, (by intro w hSw; (try dsimp only at hSw); go_simp)⟩) (by assumption) ?_
            try simp only [Act.put, List.getElem_toArray, List.getElem_cons_zero, List.getElem_cons_succ, List.setIfInBounds_toArray, List.set_cons_zero, List.set_cons_succ]
            refine wpAnyH_ready (rs := [8]) (by kernel_rfl) (by simp) (AllReadyH.cons rfl (fun K hK => ?_) AllReadyH.nil)
            try simp only [List.getElem_toArray, List.getElem_cons_zero, List.getElem_cons_succ]
            go_simp
            refine hK.out _ _ trivial (fun hHeld => ?_)
            clear hK K
            try simp only [Act.put, List.getElem_toArray, List.getElem_cons_zero, List.getElem_cons_succ, List.setIfInBounds_toArray, List.set_cons_zero, List.set_cons_succ]
            refine wpAnyH_done (by kernel_rfl) ?_ _
            generalize v3.setCell ⟨M, 2, none⟩ (.slice q' (k + 1) cap') = w7 at *
            clear x3 f3 KM
            go_wp2
            exact ⟨⟨k + 1, _, by omega, by go_num, HS⟩, by simp [intOf]; omega⟩
          · skip
            try simp only [List.getElem_toArray, List.getElem_cons_zero, List.getElem_cons_succ]
            go_simp
            go_at_call 58
            refine (rh_any (HTR.out.below HB0.out.b (fun _ _ h => h)) h32 hRn).mono ?_
            rintro e v1 ⟨rfl, hgr⟩
            have HB1 := Lib.hid (HB0.out.below hgr)
            have x1 : v1.cell? ⟨M, 2, none⟩ = some (.slice vq k cap) := HB1.out.m.cell 2
            clear hgr
            go_wp2_with fail
            refine hK.out _ _ trivial (fun hHeld => ?_)
            clear hK K
            try simp only [Act.put, List.getElem_toArray, List.getElem_cons_zero, List.getElem_cons_succ, List.setIfInBounds_toArray, List.set_cons_zero, List.set_cons_succ]
            refine wpAnyH_ready (rs := [1, 5]) (by kernel_rfl) (by simp) (AllReadyH.cons rfl (fun K hK => ?_) (AllReadyH.cons rfl (fun K hK => ?_) AllReadyH.nil))
            · skip
              try simp only [List.getElem_toArray, List.getElem_cons_zero, List.getElem_cons_succ]
              go_simp
              refine hK.out _ _ trivial (fun hHeld => ?_)
              clear hK K
              try simp only [Act.put, List.getElem_toArray, List.getElem_cons_zero, List.getElem_cons_succ, List.setIfInBounds_toArray, List.set_cons_zero, List.set_cons_succ]
              refine wpAnyH_ready (rs := [5]) (by kernel_rfl) (by simp) (AllReadyH.cons rfl (fun K hK => ?_) AllReadyH.nil)
              try simp only [List.getElem_toArray, List.getElem_cons_zero, List.getElem_cons_succ]
              refine if_wanted (by rfl) ?_
              refine wp_buildD 75 rfl _ HDK.out.1 rfl ?_
              have HB2 := Lib.hid (HB1.out.below (below_alloc v1 (.cells (nums ((q.drop (32 * k)).take 32)).toArray 24)))
              have KD2 := Lib.hid (Whole.new v1 24 (nums ((q.drop (32 * k)).take 32)).toArray)
              have x2 : (v1.alloc (.cells (nums ((q.drop (32 * k)).take 32)).toArray 24)).cell? ⟨M, 2, none⟩ = some (.slice vq k cap) := HB2.out.m.cell 2
              generalize v1.alloc (.cells (nums ((q.drop (32 * k)).take 32)).toArray 24) = v2 at *
              generalize v1.heap.size = DD at *
              refine hK.out _ _ trivial (fun hHeld => ?_)
              clear hK K
              try simp only [Act.put, List.getElem_toArray, List.getElem_cons_zero, List.getElem_cons_succ, List.setIfInBounds_toArray, List.set_cons_zero, List.set_cons_succ]
              refine wpAnyH_ready (rs := [6]) (by kernel_rfl) (by simp) (AllReadyH.cons rfl (fun K hK => ?_) AllReadyH.nil)
              try simp only [List.getElem_toArray, List.getElem_cons_zero, List.getElem_cons_succ]
              refine if_wanted (by rfl) ?_
              refine wp_append_digs _ (.tmp 72) (.tmp 76) rfl Bo _ k _ rfl HB2.out.own (fun _ => True) (some ⟨DD, 0, none⟩) 1 1 [((q.drop (32 * k)).take 32)] rfl (digs_one KD2.out trivial HDK.out) (by omega) (by omega) HB2.out.hb ?_
              intro s' v3 hown hg _
              rw [← nums_append, show (Mf.cut q k).flatten ++ [((q.drop (32 * k)).take 32)].flatten = (Mf.cut q (k + 1)).flatten by rw [HFL.out]; simp] at hown
              have KM := Lib.hid (HB2.out.m.grown hg (fun e => by have h1 := own_ge HB2.out.own _ e.symm; have h2 := HB2.out.lt; omega))
              have x3 : v3.cell? ⟨M, 2, none⟩ = some (.slice vq k cap) := KM.out.cell 2
              have f3 : v3.frozen? ⟨M, 2, none⟩ = false := KM.out.frozen 2
              obtain ⟨q', cap', rfl⟩ := Co.own_form hown
              have HS := Lib.hid (HB2.out.stored hg hown)
              clear hown hg
              refine hK.out _ _ trivial (fun hHeld => ?_)
              clear hK K
              try simp only [Act.put, List.getElem_toArray, List.getElem_cons_zero, List.getElem_cons_succ, List.setIfInBounds_toArray, List.set_cons_zero, List.set_cons_succ]
              refine wpAnyH_take (i := 7) (v := .pointer (some ⟨M, 2, none⟩)) rfl (by kernel_rfl) (by kernel_rfl) (by kernel_rfl) (fun _ _ _ h => h) (Or.inl ⟨by rfl, (by intro w hSw; (try dsimp only at hSw); go_simp)⟩) (by assumption) ?_
              try simp only [Act.put, List.getElem_toArray, List.getElem_cons_zero, List.getElem_cons_succ, List.setIfInBounds_toArray, List.set_cons_zero, List.set_cons_succ]
              refine wpAnyH_ready (rs := [8]) (by kernel_rfl) (by simp) (AllReadyH.cons rfl (fun K hK => ?_) AllReadyH.nil)
              try simp only [List.getElem_toArray, List.getElem_cons_zero, List.getElem_cons_succ]
              go_simp
              refine hK.out _ _ trivial (fun hHeld => ?_)
              clear hK K
              try simp only [Act.put, List.getElem_toArray, List.getElem_cons_zero, List.getElem_cons_succ, List.setIfInBounds_toArray, List.set_cons_zero, List.set_cons_succ]
              refine wpAnyH_done (by kernel_rfl) ?_ _
              generalize v3.setCell ⟨M, 2, none⟩ (.slice q' (k + 1) cap') = w7 at *
              clear x3 f3 KM
              go_wp2
              exact ⟨⟨k + 1, _, by omega, by go_num, HS⟩, by simp [intOf]; omega⟩
            · skip
              try simp only [List.getElem_toArray, List.getElem_cons_zero, List.getElem_cons_succ]
              refine if_wanted (by rfl) ?_
              refine wp_buildD 75 rfl _ HDK.out.1 rfl ?_
              have HB2 := Lib.hid (HB1.out.below (below_alloc v1 (.cells (nums ((q.drop (32 * k)).take 32)).toArray 24)))
              have KD2 := Lib.hid (Whole.new v1 24 (nums ((q.drop (32 * k)).take 32)).toArray)
              have x2 : (v1.alloc (.cells (nums ((q.drop (32 * k)).take 32)).toArray 24)).cell? ⟨M, 2, none⟩ = some (.slice vq k cap) := HB2.out.m.cell 2
              generalize v1.alloc (.cells (nums ((q.drop (32 * k)).take 32)).toArray 24) = v2 at *
              generalize v1.heap.size = DD at *
              refine hK.out _ _ trivial (fun hHeld => ?_)
              clear hK K
              try simp only [Act.put, List.getElem_toArray, List.getElem_cons_zero, List.getElem_cons_succ, List.setIfInBounds_toArray, List.set_cons_zero, List.set_cons_succ]
              refine wpAnyH_ready (rs := [1]) (by kernel_rfl) (by simp) (AllReadyH.cons rfl (fun K hK => ?_) AllReadyH.nil)
              try simp only [List.getElem_toArray, List.getElem_cons_zero, List.getElem_cons_succ]
              go_simp
              refine hK.out _ _ trivial (fun hHeld => ?_)
              clear hK K
              try simp only [Act.put, List.getElem_toArray, List.getElem_cons_zero, List.getElem_cons_succ, List.setIfInBounds_toArray, List.set_cons_zero, List.set_cons_succ]
              refine wpAnyH_ready (rs := [6]) (by kernel_rfl) (by simp) (AllReadyH.cons rfl (fun K hK => ?_) AllReadyH.nil)
              try simp only [List.getElem_toArray, List.getElem_cons_zero, List.getElem_cons_succ]
              refine if_wanted (by rfl) ?_
              refine wp_append_digs _ (.tmp 72) (.tmp 76) rfl Bo _ k _ rfl HB2.out.own (fun _ => True) (some ⟨DD, 0, none⟩) 1 1 [((q.drop (32 * k)).take 32)] rfl (digs_one KD2.out trivial HDK.out) (by omega) (by omega) HB2.out.hb ?_
              intro s' v3 hown hg _
              rw [← nums_append, show (Mf.cut q k).flatten ++ [((q.drop (32 * k)).take 32)].flatten = (Mf.cut q (k + 1)).flatten by rw [HFL.out]; simp] at hown
              have KM := Lib.hid (HB2.out.m.grown hg (fun e => by have h1 := own_ge HB2.out.own _ e.symm; have h2 := HB2.out.lt; omega))
              have x3 : v3.cell? ⟨M, 2, none⟩ = some (.slice vq k cap) := KM.out.cell 2
              have f3 : v3.frozen? ⟨M, 2, none⟩ = false := KM.out.frozen 2
              obtain ⟨q', cap', rfl⟩ := Co.own_form hown
              have HS := Lib.hid (HB2.out.stored hg hown)
              clear hown hg
              refine hK.out _ _ trivial (fun hHeld => ?_)
              clear hK K
              try simp only [Act.put, List.getElem_toArray, List.getElem_cons_zero, List.getElem_cons_succ, List.setIfInBounds_toArray, List.set_cons_zero, List.set_cons_succ]
              refine wpAnyH_take (i := 7) (v := .pointer (some ⟨M, 2, none⟩)) rfl (by kernel_rfl) (by kernel_rfl) (by kernel_rfl) (fun _ _ _ h => h) (Or.inl ⟨by rfl, (by intro w hSw; (try dsimp only at hSw); go_simp)⟩) (by assumption) ?_
              try simp only [Act.put, List.getElem_toArray, List.getElem_cons_zero, List.getElem_cons_succ, List.setIfInBounds_toArray, List.set_cons_zero, List.set_cons_succ]
              refine wpAnyH_ready (rs := [8]) (by kernel_rfl) (by simp) (AllReadyH.cons rfl (fun K hK => ?_) AllReadyH.nil)
              try simp only [List.getElem_toArray, List.getElem_cons_zero, List.getElem_cons_succ]
              go_simp
              refine hK.out _ _ trivial (fun hHeld => ?_)
              clear hK K
              try simp only [Act.put, List.getElem_toArray, List.getElem_cons_zero, List.getElem_cons_succ, List.setIfInBounds_toArray, List.set_cons_zero, List.set_cons_succ]
              refine wpAnyH_done (by kernel_rfl) ?_ _
              generalize v3.setCell ⟨M, 2, none⟩ (.slice q' (k + 1) cap') = w7 at *
              clear x3 f3 KM
              go_wp2
              exact ⟨⟨k + 1, _, by omega, by go_num, HS⟩, by simp [intOf]; omega⟩
        · obtain rfl : k = N := by omega
          have hPs := msize (s := s0) (c := c0) (v := .slice vq k cap) HWD.out.1
          have hPa := mcs_one (s := s0) (c := c0) (v := .slice vq k cap) (h := q.drop (32 * k)) rfl
          obtain ⟨P, hP⟩ : ∃ P, (mcs s0 c0 (.slice vq k cap) (q.drop (32 * k))).toArray = P := ⟨_, rfl⟩
          have KM := Lib.hid HK.out.m
          rw [hP] at hPs hPa KM
          have HP := Lib.hid hP
          clear hP
          have HZS := zm_size
          go_wp2_with (first
            | ((with_reducible show wpList _ _ _ ((⟨_, Op.load 26 _, _, _, _, _⟩ : Oper) :: _) _ _); refine wpList_load_row rfl _ (.tmp 10) rfl M rfl 26 P (0, 0) _ KM.out Try.underlying26 rfl (by rw [hPs]; exact info35) ?_)
            | ((with_reducible show wpList _ _ _ ((⟨_, Op.store 26 _ _, _, _, _, _⟩ : Oper) :: _) _ _); refine wpList_store_row rfl _ (.tmp 2) (.tmp 79) rfl w.heap.size P rfl rfl 26 _ HK.out.x (by rw [hPs]; exact info35) (by rw [HZS, hPs]) hPa ?_))
          refine bodyPost_ret (results_cell_one rfl _ _ _ _ rfl (loadVar35 (HK.out.x.row P) hPs)) rfl ?_
          have hl := HK.out.lt
          have hcok := Mf.cut_ok HBR.out (show 32 * k ≤ q.length by rw [HRL.out]; have := HTT.out; omega)
          obtain ⟨aq, cq, hq', hqc, hdg⟩ := own_digs HK.out.own hcok (Mf.cut_len q k)
          injection hq' with hq1 _ hq3
          subst hq1 hq3
          refine ⟨Or.inl ⟨_, _, HDEC.out, rfl, ?_⟩, below_row HK.out.b (Nat.le_refl _) _⟩
          refine ⟨vq, k, cap, by rw [← HP.out], hqc, ?_, HWD.out, ⟨by show (-9223372036854775808 : Int) ≤ s0; omega, by show s0 ≤ 9223372036854775807; omega⟩, ⟨by show (-9223372036854775808 : Int) ≤ c0; omega, by show c0 ≤ 9223372036854775807; omega⟩⟩
          exact (hdg.keep (w' := wr.setRow w.heap.size P) (by simp [World.setRow]) (fun b _ hb => setRow_other wr w.heap.size b P (by omega))).weak (fun b _ hb => by show w.heap.size ≤ b; omega)
    · have d6 : ((R : Int) == (T : Int)) = false := by simp; omega
      have d7 : (R == T) = false := by simp; omega
      have d8 : ((R : Int) != (T : Int)) = true := by simp; omega
      have HDN : Hid (Mf.dec l = none) := Lib.hid (by
        rw [HJK.out.2]; unfold Mf.decR
        rw [if_pos (Or.inr (by rw [HN.out, HRL.out]; have := HTT.out; omega))])
      go_wp2_with (first | ((with_reducible show wpList _ _ _ ((⟨_, Op.build 26 _, _, _, _, _⟩ : Oper) :: _) _ _); refine wpList_built rfl _ rfl _ rfl _ built_nil ?_) | ((with_reducible show wpList _ _ _ ((⟨_, Op.store 26 _ _, _, _, _, _⟩ : Oper) :: _) _ _); refine wpList_store_row rfl _ (.tmp 2) (.tmp 59) rfl w.heap.size zm rfl rfl 26 _ HX3.out (by rw [zm_size]; exact info35) rfl hzone ?_))
      refine bodyPost_ret (results_cell_one rfl _ _ _ _ rfl (loadVar35 (HEND.out _ rfl).1 zm_size)) rfl ?_
      exact ⟨Or.inr ⟨HDN.out, rfl⟩, (HEND.out _ rfl).2⟩
end Go.Proofs.Ytcfchkffanfehaa
namespace Go.Proofs.Ytcfchkffanfehaa
set_option maxRecDepth 20000
open Go.ChangeShapes Go.WideShapes Go.RowKit Go.Deep
section
variable {H : Type} {enc : TypeId × Value → H} {w : World}
theorem three (cs : List Value) (h : cs.length = 35) : ∃ c0 c1 c2 r, cs = c0 :: c1 :: c2 :: r ∧ r.length = 32 := by
  match cs, h with
  | c0 :: c1 :: c2 :: r, h => exact ⟨c0, c1, c2, r, rfl, by simpa using h⟩
theorem open_mcs {m : Nat} {cs : List Value} {x : DataW H × List MemPlace} (h : DataW.trod enc Try.prog w 0 (fun _ => true) true m 26 cs = some x) :
    ∃ mm : Mf.Man, Mv w (fun b => b < w.heap.size) (.agg cs.toArray) mm := by
  obtain ⟨xs, m', _, _, hcl, hxl, hf⟩ := DataW.trod_struct Try.underlying26 h
  have hcl' : cs.length = 35 := hcl.trans (by kernel_rfl)
  have hxl' : xs.length = 4 := hxl
  obtain ⟨c0, c1, c2, r, rfl, hr⟩ := three cs hcl'
  have k0 : Try.prog.cellsOf 3 = 1 := by kernel_rfl
  have k2 : Try.prog.cellsOf 23 = 1 := by kernel_rfl
  have k3 : Try.prog.cellsOf 24 = 32 := by kernel_rfl
  obtain ⟨y0, hy0⟩ := some_of hxl' (i := 0) (by omega)
  obtain ⟨y1, hy1⟩ := some_of hxl' (i := 1) (by omega)
  obtain ⟨y2, hy2⟩ := some_of hxl' (i := 2) (by omega)
  obtain ⟨y3, hy3⟩ := some_of hxl' (i := 3) (by omega)
  have f0 : DataW.trod enc Try.prog w 0 (fun _ => true) true m' 3 (((c0 :: c1 :: c2 :: r).drop 0).take (Try.prog.cellsOf 3)) = some y0 := (hf 0 _ rfl).trans hy0
  have f1 : DataW.trod enc Try.prog w 0 (fun _ => true) true m' 3 (((c0 :: c1 :: c2 :: r).drop 1).take (Try.prog.cellsOf 3)) = some y1 := (hf 1 _ rfl).trans hy1
  have f2 : DataW.trod enc Try.prog w 0 (fun _ => true) true m' 23 (((c0 :: c1 :: c2 :: r).drop 2).take (Try.prog.cellsOf 23)) = some y2 := (hf 2 _ rfl).trans hy2
  have f3 : DataW.trod enc Try.prog w 0 (fun _ => true) true m' 24 (((c0 :: c1 :: c2 :: r).drop 3).take (Try.prog.cellsOf 24)) = some y3 := (hf 3 _ rfl).trans hy3
  rw [k0] at f0 f1
  rw [k2] at f2
  rw [k3] at f3
  simp only [List.drop_succ_cons, List.drop_zero, List.take_succ_cons, List.take_zero] at f0 f1 f2 f3
  rw [List.take_of_length_le (by omega)] at f3
  obtain ⟨n0, e0, _, g0⟩ := DataW.trod_int Try.underlying3 f0
  obtain ⟨n1, e1, _, g1⟩ := DataW.trod_int Try.underlying3 f1
  obtain ⟨hh, hl32, e3⟩ := open_h32 hr f3
  obtain ⟨a, l, c, e2⟩ : ∃ a l c, c2 = .slice a l c := by
    rcases open_slice Try.underlying23 f2 with ⟨hcs, _⟩ | ⟨ad, l, c, _, _, _, _, hcs, _⟩
    · injection hcs with hcs _; exact ⟨_, _, _, hcs⟩
    · injection hcs with hcs _; exact ⟨_, _, _, hcs⟩
  subst e2
  obtain ⟨ds, hle, hdg⟩ := open_digs f2
  injection e0 with e0 _
  injection e1 with e1 _
  subst e0 e1 e3
  exact ⟨⟨n0, n1, ds, hh⟩, a, l, c, rfl, hle, hdg, hl32, i64_in g0, i64_in g1⟩
theorem open_man {base : Nat} {r : Reach} {v : Value} {d : DataW H} {ps : List MemPlace} (hv : Value.okWide Try.prog w r base 26 v) (h : DataW.Trod enc Try.prog w 0 (fun _ => true) true 26 v d ps) : ∃ m : Mf.Man, Mv w (fun b => b < w.heap.size) v m := by
  simp only [Value.okWide, Try.underlying26] at hv
  obtain ⟨cs, rfl, h2, _⟩ := hv
  obtain ⟨fuel, hf⟩ := h
  have h3 := open_mcs (cs := cs.toList) (by simpa [Value.cells] using hf)
  simpa using h3
end
end Go.Proofs.Ytcfchkffanfehaa
