/-
  Rows of bytes that came in; what CodeOnce reads; the walk of CodeNeeds.
-/
import Derived.Test.YtkmkccdihoaefaaAw
import Derived.Test.YtkmkccdihoaefaaEq
import Derived.OpenShut
import Derived.Deep.RegionWith
namespace Go.Proofs.Ytkmkccdihoaefaa
open Go.RowKit

/-- What came in: nil, or a row of numbers. -/
def Row (k : IntKind) (w : World) (a : Option Addr) (len cap : Nat) (zs : List Int) : Prop :=
  (a = none ∧ len = 0 ∧ cap = 0 ∧ zs = []) ∨
  ∃ x, a = some x ∧ len ≤ cap ∧ cap ≤ maxLen ∧ zs.length = cap ∧ (∀ i, i < zs.length → w.cell? (x.add i) = some (.int k (zs.getD i 0))) ∧ ∀ n ∈ zs, (Lit.int k n).wf = true
theorem row_txt {w : World} {a : Option Addr} {len cap : Nat} {zs : List Int} (h : Row .u8 w a len cap zs) : ∃ l, Txt w (· < w.heap.size) a len cap l := by
  rcases h with ⟨_, h0, h1, _⟩ | ⟨x, rfl, hle, _, hz, hc, hw⟩
  · subst h0 h1
    exact ⟨[], Txt.nil _ _ _ _⟩
  · have hby : Cd.Byt (zs.take len) := by
      intro y hy
      have h := hw y (List.mem_of_mem_take hy)
      simp [Lit.wf, IntKind.min, IntKind.max, IntKind.signed, IntKind.bits] at h
      omega
    by_cases h0 : len = 0
    · subst h0
      exact ⟨[], rfl, by omega, Cd.byt_nil, Or.inl rfl⟩
    · obtain ⟨b, off, rfl, hc'⟩ := ints_at hc (by omega)
      refine ⟨zs.take len, by simp; omega, hle, hby, Or.inr ⟨b, off, rfl, World.block_lt_of_cell? w _ (hc' 0 (by omega)), World.block_lt_of_cell? w _ (hc' 0 (by omega)), fun k hk => ?_⟩⟩
      rw [hc' k (by omega)]
      have hk' : k < zs.length := by omega
      simp [hk', hk]

def askAll : Prt := ⟨1, 0, -9223372036854775808, 9223372036854775807, [], zero32⟩
theorem askAll_ok : askAll.Ok := ok_mk (in_small (by omega) (by omega)) (in_small (by omega) (by omega)) ⟨by omega, by omega⟩ ⟨by omega, by omega⟩ zero_len byt_zero
theorem once_read (l : List Int) (hb : Cd.Byt l) : (reads [askAll] l).1.length = 1 ∧ ((doneOf (reads [askAll] l).2.1 (reads [askAll] l).2.2 = 20) ∨ (doneOf (reads [askAll] l).2.1 (reads [askAll] l).2.2 = 0 ∧ written (reads [askAll] l).1 = l ∧ Few (reads [askAll] l).1)) := by
  have e : reads [askAll] l = rstep ([], l, false) askAll := rfl
  rw [e]
  unfold rstep
  have e2 : takeOf askAll l false = (match Cd.get (-9223372036854775808) 9223372036854775807 l with | some (v, r) => (some (mkN v), r, false) | none => (some (mkN 0), [], true)) := by
    unfold takeOf; rw [if_pos (show askAll.k = 1 from rfl)]; rfl
  rw [e2]
  cases hg : Cd.get (-9223372036854775808) 9223372036854775807 l with
  | none => exact ⟨rfl, Or.inl rfl⟩
  | some o =>
    obtain ⟨v, r⟩ := o
    refine ⟨rfl, ?_⟩
    by_cases hr : r = []
    · right
      have h := Cd.get_enc hg hb
      subst hr
      refine ⟨rfl, ?_, by simp, ?_⟩
      · show partBytes (mkN v) ++ [] = l
        rw [h.2.2.2.2]; rfl
      · intro p hp
        simp at hp
        subst hp
        simp [mkN]
    · left
      show doneOf r false = 20
      unfold doneOf
      rw [if_pos (Or.inr hr)]


/-- What CodeNeeds reads of what it wrote. -/
theorem needs_get {l : List Int} (hl : l.length ≤ 100) (r : List Int) : txtOf 100 ((Cd.num l.length ++ l) ++ r) = some (l, r) := by
  unfold txtOf
  rw [List.append_assoc, Cd.get_num (n := (l.length : Int)) (by omega) (by omega) (by omega) (by omega)]
  simp only [Int.toNat_natCast]
  rw [if_pos (by simp; omega), List.take_left, List.drop_left]
theorem num_seven : Cd.num 7 = [14] := encU_small (u := 14) (by omega)

set_option maxHeartbeats 2000000 in
theorem eq_zero (w : World) : (Op.equalIn 10000 26 (.agg (nums zero32).toArray) (.agg #[Value.int IntKind.u8 0, Value.int IntKind.u8 0, Value.int IntKind.u8 0, Value.int IntKind.u8 0, Value.int IntKind.u8 0, Value.int IntKind.u8 0, Value.int IntKind.u8 0, Value.int IntKind.u8 0, Value.int IntKind.u8 0, Value.int IntKind.u8 0, Value.int IntKind.u8 0, Value.int IntKind.u8 0, Value.int IntKind.u8 0, Value.int IntKind.u8 0, Value.int IntKind.u8 0, Value.int IntKind.u8 0, Value.int IntKind.u8 0, Value.int IntKind.u8 0, Value.int IntKind.u8 0, Value.int IntKind.u8 0, Value.int IntKind.u8 0, Value.int IntKind.u8 0, Value.int IntKind.u8 0, Value.int IntKind.u8 0, Value.int IntKind.u8 0, Value.int IntKind.u8 0, Value.int IntKind.u8 0, Value.int IntKind.u8 0, Value.int IntKind.u8 0, Value.int IntKind.u8 0, Value.int IntKind.u8 0, Value.int IntKind.u8 0])).run Try.prog w = .ok true w := by
  have h := equal32 9999 (fun a b w => run_equalIn_int w 9998 5 .u8 .u8 a b Try.underlying5) zero32 zero32 rfl rfl w
  rw [zero_lit, h, decide_eq_true rfl]

set_option maxRecDepth 100000 in
theorem needs_walk (a0 : Option Addr) (len0 cap0 : Nat) (z0 : List Int) (is : Bool) (w : World) (w0 : Row .u8 w a0 len0 cap0 z0) :
    Calls Try.prog 8 #[.slice a0 len0 cap0, .bool is] w fun e w' => e = .returned (.bool true) ∧ Below w.heap.size w w' := by
  obtain ⟨l, ht⟩ := row_txt w0
  have HT := Lib.hid ht
  clear w0 ht
  by_cases h100 : 100 < len0
  · go_enter Try.func8, Try.ntmps8
    go_wp2_with fail
    refine (awake_any _).mono ?_; rintro e w1 ⟨rfl, hg⟩
    have HG := Lib.hid hg
    clear hg
    go_wp2
    go_ret
    exact ⟨rfl, HG.out⟩
  · have HL : Hid (l.length = len0) := Lib.hid HT.out.1
    go_enter Try.func8, Try.ntmps8
    go_wp2_with fail
    refine (awake_any _).mono ?_; rintro e w1 ⟨rfl, hg⟩
    have HB1 := Lib.hid hg
    clear hg
    go_wp2_with fail
    have hz1 := HB1.out.size
    have HWr : Hid (Wr (w1.alloc (.cells #[.pointer none, .int .i64 0] 44)) w1.heap.size w1.heap.size []) := Lib.hid ⟨Nat.le_refl _, Or.inl ⟨rfl, Whole.new _ _ _⟩⟩
    have HT1 : Hid (Txt (w1.alloc (.cells #[.pointer none, .int .i64 0] 44)) (· < w.heap.size) a0 len0 cap0 l) := Lib.hid ((HT.out.below HB1.out (fun _ _ h => h)).keep (by simp) (fun b hb _ => Below.heap_alloc _ _ _ hb))
    refine (text_any (by simp) HWr.out HT1.out (fun b h => by omega) (by simp) (by omega)).mono ?_
    rintro e w2 ⟨rfl, hw2, hb2⟩
    have HW2 := Lib.hid hw2
    have HB2 : Hid (Below w1.heap.size w1 w2) := Lib.hid ((below_alloc w1 _).trans hb2)
    clear hw2 hb2 HWr HT1
    have hz2 := HB2.out.size
    have hn1 : (Cd.num (l.length : Int)).length ≤ 10 := Cd.num_len (by have := HL.out; omega) (by have := HL.out; omega)
    have HNL := Lib.hid hn1
    clear hn1
    go_wp2_with fail
    refine (int_any 7 hz2 HW2.out (by have := HNL.out; have := HL.out; simp; omega) (by omega) (by omega)).mono ?_
    rintro e w3 ⟨rfl, hw3, hb3⟩
    have HW3 := Lib.hid hw3
    have HB3 : Hid (Below w1.heap.size w1 w3) := Lib.hid (HB2.out.trans hb3)
    clear hw3 hb3
    go_wp2_with fail
    refine (bytes_any HW3.out (Cd.byt_append (Cd.byt_append Cd.byt_nil (Cd.byt_append (Cd.byt_num _) HT.out.2.2.1)) (Cd.byt_num _)) (by have := HNL.out; have := HL.out; rw [num_seven]; simp; omega)).mono ?_
    rintro e w4 ⟨v4, rfl, hown4, hb4⟩
    rw [List.nil_append, num_seven] at hown4
    obtain ⟨a4, c4, rfl, htx4⟩ := Txt.own hown4 (Cd.byt_append (Cd.byt_append (Cd.byt_num _) HT.out.2.2.1) (Cd.byt_cons (by omega) (by omega) Cd.byt_nil))
    have HT4 := Lib.hid htx4
    have HB4 : Hid (Below w.heap.size w w4) := Lib.hid ((HB1.out.trans (HB3.out.mono hz1)).trans (hb4.mono (by have := HB3.out.size; omega)))
    clear hown4 htx4 hb4 HW2 HW3 HB2 HB3
    obtain ⟨n4, hn4⟩ : ∃ n4, (Cd.num ↑l.length ++ l ++ [14]).length = n4 := ⟨_, rfl⟩
    rw [hn4] at HT4
    rw [hn4]
    have hn4b : n4 ≤ 200 := by rw [← hn4]; have := HNL.out; have := HL.out; simp; omega
    clear hn4
    go_wp2_with fail
    refine (new_any HT4.out (by omega)).mono ?_
    rintro e w5 ⟨g, rfl, hg5, hr5, hb5⟩
    have HR5 := Lib.hid hr5
    have HB5 : Hid (Below w.heap.size w w5) := Lib.hid (HB4.out.trans (hb5.mono HB4.out.size))
    have hgw : w.heap.size ≤ g := Nat.le_trans HB4.out.size hg5
    clear hr5 hb5 HT4 hg5
    go_wp2_with fail
    refine (need_any true HR5.out).mono ?_
    rintro e w6 ⟨rfl, hr6, hg6⟩
    have HR6 : Hid (Rd w6 g (Cd.num l.length ++ l ++ [14]) false) := Lib.hid hr6
    have HB6 : Hid (Below w.heap.size w w6) := Lib.hid (HB5.out.grown hg6 HB5.out.size (fun k hk => by injection hk with hk; omega))
    clear hr6 hg6
    go_wp2_with fail
    refine (rtext_any 100 HR6.out (by have := HNL.out; have := HL.out; simp; omega)).mono ?_
    rintro e w7 h7
    rw [needs_get (by have := HL.out; omega)] at h7
    have h7' : ∃ v, e = .returned v ∧ w7.ownsRow w6.heap.size 5 1 v l.length (nums l) ∧ Rd w7 g [14] false ∧ w6.grownBy w7 (some g) := by
      rcases h7 with ⟨t, r, v, ho, he, h1, h2, h3⟩ | ⟨ho, _⟩
      · injection ho with ho
        injection ho with ho1 ho2
        subst ho1 ho2
        exact ⟨v, he, h1, h2, h3⟩
      · cases ho
    obtain ⟨v7, rfl, hown7, hr7, hg7⟩ := h7'
    clear h7
    obtain ⟨a7, c7, rfl, htx7⟩ := Txt.own hown7 HT.out.2.2.1
    have hg6z : w6.heap.size > g := HR6.out.lt
    have HT7 : Hid (Txt w7 (· > g) a7 l.length c7 l) := Lib.hid (htx7.weak (fun b _ hb => by show g < b; omega))
    have HR7 := Lib.hid hr7
    have HB7 : Hid (Below w.heap.size w w7) := Lib.hid (HB6.out.grown hg7 HB6.out.size (fun k hk => by injection hk with hk; omega))
    clear hown7 htx7 hr7 hg7
    rw [HL.out] at HT7
    rw [HL.out]
    go_wp2_with fail
    refine (need_any is HR7.out).mono ?_
    rintro e w8 ⟨rfl, hr8, hg8⟩
    have HR8 := Lib.hid hr8
    have HT8 : Hid (Txt w8 (· > g) a7 len0 c7 l) := Lib.hid (HT7.out.grown hg8 (fun b _ hb e => by injection e with e; omega))
    have HB8 : Hid (Below w.heap.size w w8) := Lib.hid (HB7.out.grown hg8 HB7.out.size (fun k hk => by injection hk with hk; omega))
    clear hr8 hg8 HR7 HT7
    go_wp2_with fail
    refine (rint_any 7 7 HR8.out).mono ?_
    rintro e w9 h9
    have h9' : ∃ n r gv, e = .returned (.int .i64 n) ∧ Rd w9 g r gv ∧ w8.grownBy w9 (some g) ∧ (is = true → n = 7 ∧ doneOf r gv = 0) ∧ (is = false → n = 0 ∧ doneOf r gv = 20) := by
      cases is with
      | true =>
        have e1 : Cd.get 7 7 (needRest true [14]) = some (7, []) := rfl
        rw [e1] at h9
        rcases h9 with ⟨v, r, ho, he, h2, h3⟩ | ⟨ho, _⟩
        · injection ho with ho
          injection ho with ho1 ho2
          subst ho1 ho2
          exact ⟨7, [], false, he, h2, h3, fun _ => ⟨rfl, rfl⟩, fun h => by cases h⟩
        · cases ho
      | false =>
        have e1 : Cd.get 7 7 (needRest false [14]) = none := rfl
        rw [e1] at h9
        rcases h9 with ⟨v, r, ho, _⟩ | ⟨ho, he, h2, h3⟩
        · cases ho
        · exact ⟨0, [], true, he, h2, h3, (fun h => by cases h), fun _ => ⟨rfl, rfl⟩⟩
    obtain ⟨n9, r9, gv9, rfl, hr9, hg9, hyes, hno⟩ := h9'
    clear h9
    have HR9 := Lib.hid hr9
    have HT9 : Hid (Txt w9 (· > g) a7 len0 c7 l) := Lib.hid (HT8.out.grown hg9 (fun b _ hb e => by injection e with e; omega))
    have HB9 : Hid (Below w.heap.size w w9) := Lib.hid (HB8.out.grown hg9 HB8.out.size (fun k hk => by injection hk with hk; omega))
    have HYES := Lib.hid hyes
    have HNO := Lib.hid hno
    clear hr9 hg9 HR8 HT8 hyes hno
    go_wp2_with fail
    refine (done_any HR9.out).mono ?_
    rintro e w10 ⟨rfl, rfl⟩
    have hcv1 := convert_txt HT9.out
    have hcv2 := convert_txt (HT.out.below HB9.out (fun _ _ h => h))
    generalize strOfNums l = s at *
    obtain ⟨d9, hd9⟩ : ∃ d9, doneOf r9 gv9 = d9 := ⟨_, rfl⟩
    rw [hd9] at HYES HNO
    rw [hd9]
    clear hd9 HR9
    have eyes : is = true → n9 = 7 ∧ d9 = 0 := HYES.out
    have eno : is = false → n9 = 0 ∧ d9 = 20 := HNO.out
    clear HYES HNO
    have HQ := eq_zero
    have HLe : Hid (len0 ≤ 1099511627776) := Lib.hid (by omega)
    cases is with
    | true =>
      obtain ⟨rfl, rfl⟩ := eyes rfl
      clear eyes eno
      go_wp2_with (first
        | (go_at_call 23; refine (need_nil _ _).mono ?_; rintro e w10 ⟨rfl, hb⟩; replace HB9 := Lib.hid (HB9.out.trans (hb.mono HB9.out.size)); clear hb)
        | (go_at_call 20; refine (int_nil 5 _ (by omega) (by omega)).mono ?_; rintro e w10 ⟨rfl, hb⟩; replace HB9 := Lib.hid (HB9.out.trans (hb.mono HB9.out.size)); clear hb)
        | (go_at_call 19; refine (text_nil _ _ _ _ HLe.out).mono ?_; rintro e w10 ⟨rfl, hb⟩; replace HB9 := Lib.hid (HB9.out.trans (hb.mono HB9.out.size)); clear hb)
        | (go_at_call 27; refine (hash_nil _ _).mono ?_; rintro e w10 ⟨rfl, hb⟩; replace HB9 := Lib.hid (HB9.out.trans (hb.mono HB9.out.size)); clear hb)
        | (go_at_call 25; refine (rint_nil 0 5 _).mono ?_; rintro e w10 ⟨rfl, hb⟩; replace HB9 := Lib.hid (HB9.out.trans (hb.mono HB9.out.size)); clear hb)
        | (go_at_call 24; refine (rtext_nil 5 _).mono ?_; rintro e w10 ⟨rfl, hb⟩; replace HB9 := Lib.hid (HB9.out.trans (hb.mono HB9.out.size)); clear hb)
        | (go_at_call 28; refine (rhash_nil _).mono ?_; rintro e w10 ⟨rfl, hb⟩; replace HB9 := Lib.hid (HB9.out.trans (hb.mono HB9.out.size)); clear hb)
        | (go_at_call 26; refine (done_nil _).mono ?_; rintro e w10 ⟨rfl, rfl⟩)
        | (go_at_call 22; refine (bytes_nil _).mono ?_; rintro e w10 ⟨rfl, rfl⟩))
      go_ret
      exact ⟨rfl, HB9.out⟩
    | false =>
      obtain ⟨rfl, rfl⟩ := eno rfl
      clear eyes eno
      go_wp2_with (first
        | (go_at_call 23; refine (need_nil _ _).mono ?_; rintro e w10 ⟨rfl, hb⟩; replace HB9 := Lib.hid (HB9.out.trans (hb.mono HB9.out.size)); clear hb)
        | (go_at_call 20; refine (int_nil 5 _ (by omega) (by omega)).mono ?_; rintro e w10 ⟨rfl, hb⟩; replace HB9 := Lib.hid (HB9.out.trans (hb.mono HB9.out.size)); clear hb)
        | (go_at_call 19; refine (text_nil _ _ _ _ HLe.out).mono ?_; rintro e w10 ⟨rfl, hb⟩; replace HB9 := Lib.hid (HB9.out.trans (hb.mono HB9.out.size)); clear hb)
        | (go_at_call 27; refine (hash_nil _ _).mono ?_; rintro e w10 ⟨rfl, hb⟩; replace HB9 := Lib.hid (HB9.out.trans (hb.mono HB9.out.size)); clear hb)
        | (go_at_call 25; refine (rint_nil 0 5 _).mono ?_; rintro e w10 ⟨rfl, hb⟩; replace HB9 := Lib.hid (HB9.out.trans (hb.mono HB9.out.size)); clear hb)
        | (go_at_call 24; refine (rtext_nil 5 _).mono ?_; rintro e w10 ⟨rfl, hb⟩; replace HB9 := Lib.hid (HB9.out.trans (hb.mono HB9.out.size)); clear hb)
        | (go_at_call 28; refine (rhash_nil _).mono ?_; rintro e w10 ⟨rfl, hb⟩; replace HB9 := Lib.hid (HB9.out.trans (hb.mono HB9.out.size)); clear hb)
        | (go_at_call 26; refine (done_nil _).mono ?_; rintro e w10 ⟨rfl, rfl⟩)
        | (go_at_call 22; refine (bytes_nil _).mono ?_; rintro e w10 ⟨rfl, rfl⟩))
      go_ret
      exact ⟨rfl, HB9.out⟩
end Go.Proofs.Ytkmkccdihoaefaa
