/-
  Parts in memory, and the walks of the statements' few and Written.
-/
import Derived.Test.YtkmkccdihoaefaaDa
import Derived.Deep.MidRow
namespace Go.Proofs.Ytkmkccdihoaefaa
open Go.RowKit

/-- A part: its kind, number, least, most, bytes and hash. -/
structure Prt where
  k : Int
  n : Int
  least : Int
  most : Int
  b : List Int
  h : List Int

def inI64 (n : Int) : Prop := -9223372036854775808 ≤ n ∧ n ≤ 9223372036854775807
/-- Its numbers fit, and its hash has 32 bytes. -/
structure Prt.Ok (p : Prt) : Prop where
  k : inI64 p.k
  n : inI64 p.n
  least : inI64 p.least
  most : inI64 p.most
  h : p.h.length = 32
  hb : Cd.Byt p.h

/-- The part p lies in block b from o on, its bytes in a block of S. -/
structure PrtAt (w : World) (S : Nat → Prop) (b o : Nat) (p : Prt) : Prop where
  hk : w.cell? ⟨b, o, none⟩ = some (.int .i64 p.k)
  hn : w.cell? ⟨b, o + 1, none⟩ = some (.int .i64 p.n)
  hl : w.cell? ⟨b, o + 2, none⟩ = some (.int .i64 p.least)
  hm : w.cell? ⟨b, o + 3, none⟩ = some (.int .i64 p.most)
  hb : ∃ a n c, w.cell? ⟨b, o + 4, none⟩ = some (.slice a n c) ∧ Txt w S a n c p.b
  hh : w.rangeAt b (o + 5) (nums p.h)

/-- The slice a of n parts holds ps, all of it in blocks of S. -/
def Prts (w : World) (S : Nat → Prop) (a : Option Addr) (n : Nat) (ps : List Prt) : Prop :=
  ps.length = n ∧ (∀ p ∈ ps, p.Ok) ∧ (ps = [] ∨ ∃ b off, a = some ⟨b, off, none⟩ ∧ S b ∧ b < w.heap.size ∧ ∀ i p, ps[i]? = some p → PrtAt w S b (off + i * 37) p)

theorem PrtAt.keep {w w' : World} {S : Nat → Prop} {b o : Nat} {p : Prt} (h : PrtAt w S b o p) (hb : w'.heap[b]? = w.heap[b]?) (hz : w.heap.size ≤ w'.heap.size) (hk : ∀ b, b < w.heap.size → S b → w'.heap[b]? = w.heap[b]?) : PrtAt w' S b o p := by
  have e : ∀ i, w'.cell? ⟨b, i, none⟩ = w.cell? ⟨b, i, none⟩ := fun i => World.cell?_of_block (w := w) hb
  obtain ⟨a, n, c, h1, h2⟩ := h.hb
  exact ⟨(e _).trans h.hk, (e _).trans h.hn, (e _).trans h.hl, (e _).trans h.hm, ⟨a, n, c, (e _).trans h1, h2.keep hz hk⟩, fun j v hv => (e _).trans (h.hh j v hv)⟩
theorem PrtAt.weak {w : World} {S S' : Nat → Prop} {b o : Nat} {p : Prt} (h : PrtAt w S b o p) (hs : ∀ b, b < w.heap.size → S b → S' b) : PrtAt w S' b o p := by
  obtain ⟨a, n, c, h1, h2⟩ := h.hb
  exact ⟨h.hk, h.hn, h.hl, h.hm, ⟨a, n, c, h1, h2.weak hs⟩, h.hh⟩
section
variable {w w' : World} {S S' : Nat → Prop} {a : Option Addr} {n : Nat} {ps : List Prt}
theorem Prts.keep (h : Prts w S a n ps) (hz : w.heap.size ≤ w'.heap.size) (hk : ∀ b, b < w.heap.size → S b → w'.heap[b]? = w.heap[b]?) : Prts w' S a n ps := by
  refine ⟨h.1, h.2.1, ?_⟩
  rcases h.2.2 with h | ⟨b, off, e, hs, hb, hc⟩
  · exact Or.inl h
  · exact Or.inr ⟨b, off, e, hs, by omega, fun i p hp => (hc i p hp).keep (hk b hb hs) hz hk⟩
theorem Prts.weak (h : Prts w S a n ps) (hs : ∀ b, b < w.heap.size → S b → S' b) : Prts w S' a n ps := by
  refine ⟨h.1, h.2.1, ?_⟩
  rcases h.2.2 with h | ⟨b, off, e, hs', hb, hc⟩
  · exact Or.inl h
  · exact Or.inr ⟨b, off, e, hs b hb hs', hb, fun i p hp => (hc i p hp).weak hs⟩
theorem Prts.old (h : Prts w S a n ps) : Prts w (· < w.heap.size) a n ps := h.weak fun _ hb _ => hb
theorem Prts.below {B : Nat} (h : Prts w S a n ps) (hb : Below B w w') (hs : ∀ b, b < w.heap.size → S b → b < B) : Prts w' S a n ps :=
  h.keep hb.size fun b hlt hS => hb.block b (hs b hlt hS)
theorem Prts.at_ (h : Prts w S a n ps) {k : Nat} (hk : k < n) : ∃ b off p, a = some ⟨b, off, none⟩ ∧ S b ∧ b < w.heap.size ∧ ps[k]? = some p ∧ p ∈ ps ∧ p.Ok ∧ PrtAt w S b (off + k * 37) p := by
  have hl : k < ps.length := by rw [h.1]; exact hk
  rcases h.2.2 with h0 | ⟨b, off, e, hs', hb, hc⟩
  · subst h0; simp at hl
  · exact ⟨b, off, ps[k], e, hs', hb, List.getElem?_eq_getElem hl, List.getElem_mem hl, h.2.1 _ (List.getElem_mem hl), hc k _ (List.getElem?_eq_getElem hl)⟩
end

/-- At most twenty parts, of at most three hundred bytes. -/
def Few (ps : List Prt) : Prop := ps.length ≤ 20 ∧ ∀ p ∈ ps, p.b.length ≤ 300

set_option maxHeartbeats 400000 in
theorem few_many {a : Option Addr} {n c : Nat} {w : World} (hn : 20 < n) :
    Calls Try.prog 12 #[.slice a n c] w fun e w' => e = .returned (.bool false) ∧ w = w' := by
  go_enter Try.func12, Try.ntmps12
  go_wp2
  go_ret
  exact ⟨rfl, rfl⟩

/-- What few answers. -/
def fewB (ps : List Prt) : Bool := decide (ps.length ≤ 20) && ps.all fun p => decide (p.b.length ≤ 300)
theorem fewB_true {ps : List Prt} : fewB ps = true ↔ Few ps := by
  unfold fewB Few; simp

set_option maxHeartbeats 400000 in
theorem few_any {S : Nat → Prop} {a : Option Addr} {n c : Nat} {ps : List Prt} {w : World} (h : Prts w S a n ps) :
    Calls Try.prog 12 #[.slice a n c] w fun e w' => e = .returned (.bool (fewB ps)) ∧ w = w' := by
  by_cases hn : 20 < n
  · refine (few_many hn).mono ?_
    rintro e w' ⟨rfl, rfl⟩
    have : fewB ps = false := by unfold fewB; rw [h.1, decide_eq_false (by omega)]; rfl
    rw [this]
    exact ⟨rfl, rfl⟩
  · have H := Lib.hid h
    clear h
    obtain ⟨B, hB⟩ : ∃ B, fewB ps = B := ⟨_, rfl⟩
    rw [hB]
    have HB := Lib.hid hB
    clear hB
    go_enter Try.func12, Try.ntmps12
    go_wp2
    go_loop [3] (fun i => ∃ k : Nat, k ≤ n ∧ i = .int .i64 k ∧ Hid (∀ j p, j < k → ps[j]? = some p → p.b.length ≤ 300)) (fun i => n - (intOf i).toNat)
    case atStart => exact ⟨0, Nat.zero_le _, rfl, Lib.hid (fun j p hj => by omega)⟩
    case round =>
      obtain ⟨k, hk, rfl, HJ⟩ := hrel
      by_cases c : k < n
      · obtain ⟨b, off, p, rfl, _, _, hp, hmem, hok, hat⟩ := H.out.at_ c
        obtain ⟨a1, n1, c1, hc4, htx⟩ := hat.hb
        have hlen := htx.1
        have HP := Lib.hid (And.intro hp hlen)
        clear hp hat htx hlen hmem hok
        by_cases hl : 300 < n1
        · have HV : Hid (B = false) := Lib.hid (by
            rw [← HB.out]
            cases hf : fewB ps with
            | false => rfl
            | true =>
              have := (fewB_true.1 hf).2 p (List.mem_of_getElem? HP.out.1)
              have := HP.out.2
              omega)
          go_wp2
          go_ret
          rw [HV.out]; exact ⟨rfl, rfl⟩
        · go_wp2
          refine ⟨⟨k + 1, by omega, by go_num, Lib.hid (fun j p' hj hp' => ?_)⟩, by simp [intOf]; omega⟩
          by_cases hjk : j < k
          · exact HJ.out j p' hjk hp'
          · obtain rfl : j = k := by omega
            rw [HP.out.1] at hp'
            injection hp' with hp'
            subst hp'
            have := HP.out.2
            omega
      · have HV : Hid (B = true) := Lib.hid (by
          rw [← HB.out]
          refine fewB_true.2 ⟨by rw [H.out.1]; omega, fun p hp => ?_⟩
          obtain ⟨j, hj, rfl⟩ := List.mem_iff_getElem.1 hp
          exact HJ.out j _ (by have := H.out.1; omega) (List.getElem?_eq_getElem hj))
        go_wp2
        go_ret
        rw [HV.out]; exact ⟨rfl, rfl⟩

/-- The bytes of a part. -/
def partBytes (p : Prt) : List Int := if p.k = 1 then Cd.num p.n else if p.k = 2 then Cd.num p.b.length ++ p.b else if p.k = 3 then p.h else []
def written (ps : List Prt) : List Int := ps.flatMap partBytes
theorem partBytes_byt {p : Prt} (h : p.Ok) (hb : Cd.Byt p.b) : Cd.Byt (partBytes p) := by
  unfold partBytes
  split
  · exact Cd.byt_num _
  · split
    · exact Cd.byt_append (Cd.byt_num _) hb
    · split
      · exact h.hb
      · exact Cd.byt_nil
theorem partBytes_len {p : Prt} (h : p.Ok) (hb : p.b.length ≤ 300) : (partBytes p).length ≤ 310 := by
  unfold partBytes
  split
  · have := Cd.num_len h.n.1 h.n.2; omega
  · split
    · have := Cd.num_len (n := (p.b.length : Int)) (by omega) (by omega)
      simp; omega
    · split
      · rw [h.h]; omega
      · simp
theorem written_snoc (ps : List Prt) (k : Nat) (p : Prt) (hp : ps[k]? = some p) : written (ps.take (k + 1)) = written (ps.take k) ++ partBytes p := by
  unfold written
  obtain ⟨hk, rfl⟩ := List.getElem?_eq_some_iff.1 hp
  rw [List.take_succ_eq_append_getElem hk, List.flatMap_append]
  simp
theorem written_len {ps : List Prt} (h : ∀ p ∈ ps, p.Ok) (hb : ∀ p ∈ ps, p.b.length ≤ 300) : (written ps).length ≤ 310 * ps.length := by
  unfold written
  induction ps with
  | nil => simp
  | cons p ps ih =>
    have h1 := partBytes_len (h p (by simp)) (hb p (by simp))
    have h2 := ih (fun q hq => h q (by simp [hq])) (fun q hq => hb q (by simp [hq]))
    simp only [List.flatMap_cons, List.length_append, List.length_cons]
    omega
theorem Prts.byt {w : World} {S : Nat → Prop} {a : Option Addr} {n : Nat} {ps : List Prt} (h : Prts w S a n ps) : ∀ p ∈ ps, Cd.Byt p.b := by
  intro p hp
  obtain ⟨j, hj, rfl⟩ := List.mem_iff_getElem.1 hp
  rcases h.2.2 with h0 | ⟨b, off, e, hs', hb, hc⟩
  · subst h0; simp at hj
  · obtain ⟨a, n, c, _, ht⟩ := (hc j _ (List.getElem?_eq_getElem hj)).hb
    exact ht.2.2.1
theorem written_byt {ps : List Prt} (h : ∀ p ∈ ps, p.Ok) (hb : ∀ p ∈ ps, Cd.Byt p.b) : Cd.Byt (written ps) := by
  intro x hx
  obtain ⟨p, hp, hx⟩ := List.mem_flatMap.1 hx
  exact partBytes_byt (h p hp) (hb p hp) x hx

set_option maxHeartbeats 1000000 in
theorem written_any {S : Nat → Prop} {a : Option Addr} {n c : Nat} {ps : List Prt} {w : World} (h : Prts w S a n ps) (hf : Few ps) :
    Calls Try.prog 15 #[.slice a n c] w (Made w.heap.size w (written ps)) := by
  have hlen := h.1
  have hn : n ≤ 20 := by have := hf.1; omega
  have H := Lib.hid h.old
  have HF := Lib.hid hf
  have HS : Hid (Wr (w.alloc (.cells #[.pointer none, .int .i64 0] 44)) w.heap.size w.heap.size []) := Lib.hid ⟨Nat.le_refl _, Or.inl ⟨rfl, Whole.new _ _ _⟩⟩
  clear h hf hlen
  go_enter Try.func15, Try.ntmps15
  go_wp2
  go_loopw [4] (fun i wr => ∃ k : Nat, k ≤ n ∧ i = .int .i64 k ∧ Hid (Wr wr w.heap.size w.heap.size (written (ps.take k))) ∧ Hid (Below w.heap.size w wr)) (fun i _ => n - (intOf i).toNat)
  case atStart => exact ⟨0, Nat.zero_le _, rfl, HS, Lib.hid (below_alloc _ _)⟩
  case round =>
    clear HS
    obtain ⟨k, hk, rfl, HW, HB⟩ := hrel
    have hz := HB.out.size
    have HLN : Hid ((written (ps.take k)).length ≤ 6200) := Lib.hid (by
      have h1 := written_len (ps := ps.take k) (fun p hp => H.out.2.1 p (List.mem_of_mem_take hp)) (fun p hp => HF.out.2 p (List.mem_of_mem_take hp))
      have h2 : (ps.take k).length ≤ k := List.length_take_le _ _
      omega)
    by_cases c : k < n
    · obtain ⟨b, off, p, rfl, hlt, _, hp, hmem, hok, hat⟩ := H.out.at_ c
      have hat' := hat.keep (HB.out.block b hlt) hz (fun b _ h => HB.out.block b h)
      have HSN := Lib.hid (written_snoc ps k p hp)
      have hk0 := hat'.hk
      have HAT := Lib.hid hat'
      have HOK := Lib.hid hok
      have HBL := Lib.hid (HF.out.2 p hmem)
      clear hat hat' hok hmem hp
      by_cases h1 : p.k = 1
      · have e1 : (p.k == 1) = true := by simp [h1]
        have HPB : Hid (partBytes p = Cd.num p.n) := Lib.hid (by unfold partBytes; rw [if_pos h1])
        have c1 := HAT.out.hn
        clear h1
        go_wp2_with fail
        refine (int_any p.n hz HW.out (by have := HLN.out; omega) HOK.out.n.1 HOK.out.n.2).mono ?_; rintro e w2 ⟨rfl, hw2, hb2⟩
        have HW2 := Lib.hid hw2
        have HB2 := Lib.hid hb2
        clear hw2 hb2
        go_wp2
        refine ⟨⟨k + 1, by omega, by go_num, ?_, Lib.hid (HB.out.trans HB2.out)⟩, by simp [intOf]; omega⟩
        rw [HSN.out, HPB.out]; exact HW2
      · have e1 : (p.k == 1) = false := by simp [h1]
        by_cases h2 : p.k = 2
        · have e2 : (p.k == 2) = true := by simp [h2]
          have HPB : Hid (partBytes p = Cd.num p.b.length ++ p.b) := Lib.hid (by unfold partBytes; rw [if_neg h1, if_pos h2])
          obtain ⟨a1, n1, c1, hc4, htx⟩ := HAT.out.hb
          have HTX := Lib.hid htx
          have hn1 : n1 ≤ 300 := by have := HBL.out; have := htx.1; omega
          clear h1 h2 htx
          go_wp2_with fail
          refine (text_any hz HW.out HTX.out (fun _ h => h) (by have := HLN.out; omega) (by omega)).mono ?_; rintro e w2 ⟨rfl, hw2, hb2⟩
          have HW2 := Lib.hid hw2
          have HB2 := Lib.hid hb2
          clear hw2 hb2
          go_wp2
          refine ⟨⟨k + 1, by omega, by go_num, ?_, Lib.hid (HB.out.trans HB2.out)⟩, by simp [intOf]; omega⟩
          rw [HSN.out, HPB.out]; exact HW2
        · have e2 : (p.k == 2) = false := by simp [h2]
          by_cases h3 : p.k = 3
          · have e3 : (p.k == 3) = true := by simp [h3]
            have HPB : Hid (partBytes p = p.h) := Lib.hid (by unfold partBytes; rw [if_neg h1, if_neg h2, if_pos h3])
            clear h1 h2 h3
            have h32 := info32
            have hl32 : (nums p.h).length = 32 := by rw [nums_len]; exact HOK.out.h
            go_wp2_with ((with_reducible show wpList _ _ _ ((⟨_, Op.load 26 _, _, _, _, _⟩ : Oper) :: _) _ _); refine wpList_load_mid rfl _ (.tmp 42) rfl b (off + k * 37 + 5) rfl (nums p.h) _ HAT.out.hh und32 rfl (by rw [hl32]; exact info32) ?_)
            refine (hash_any hz HW.out HOK.out.h HOK.out.hb (by have := HLN.out; omega)).mono ?_; rintro e w2 ⟨rfl, hw2, hb2⟩
            have HW2 := Lib.hid hw2
            have HB2 := Lib.hid hb2
            clear hw2 hb2 h32 hl32
            go_wp2
            refine ⟨⟨k + 1, by omega, by go_num, ?_, Lib.hid (HB.out.trans HB2.out)⟩, by simp [intOf]; omega⟩
            rw [HSN.out, HPB.out]; exact HW2
          · have e3 : (p.k == 3) = false := by simp [h3]
            have HPB : Hid (partBytes p = []) := Lib.hid (by unfold partBytes; rw [if_neg h1, if_neg h2, if_neg h3])
            clear h1 h2 h3
            go_wp2
            refine ⟨⟨k + 1, by omega, by go_num, ?_, HB⟩, by simp [intOf]; omega⟩
            rw [HSN.out, HPB.out, List.append_nil]; exact HW
    · have he : ps.take k = ps := List.take_of_length_le (by have := H.out.1; omega)
      have HW1 : Hid (Wr wr w.heap.size w.heap.size (written ps)) := Lib.hid (by have := HW.out; rw [he] at this; exact this)
      have HLN1 : Hid ((written ps).length ≤ 6200) := Lib.hid (by have := HLN.out; rw [he] at this; exact this)
      clear HW HLN he
      go_wp2_with fail
      refine (bytes_any HW1.out (written_byt H.out.2.1 H.out.byt) (by have := HLN1.out; omega)).mono ?_
      rintro e w2 ⟨v, rfl, hown, hbl⟩
      have HX : Hid (Made w.heap.size w (written ps) (.returned v) w2) := Lib.hid ⟨v, rfl, own_base hown hz, HB.out.trans (hbl.mono hz)⟩
      clear hown hbl
      go_wp2
      go_ret
      exact HX.out
end Go.Proofs.Ytkmkccdihoaefaa
