/-
  The walk of the statement on means.
-/
import Derived.Test.YtambmendeomknaaLc
namespace Go.Proofs.Ytambmendeomknaa
open Go.RowKit

theorem fl_snoc (l : List Nat) (k : Nat) (h : k < l.length) : fl (l.take (k + 1)) = fl (l.take k) ++ [.float .f64 (l.getD k 0)] := by
  rw [Fl.take_snoc l k h]; simp [fl]

structure MeanFacts (m : Nat) : Prop where
  bits : Fl.bitsOf m = m
  ge : (FloatKind.f64.format.order m 0 == some Ordering.gt || FloatKind.f64.format.order m 0 == some Ordering.eq) = true
  le : (FloatKind.f64.format.order m 4607182418800017408 == some Ordering.lt || FloatKind.f64.format.order m 4607182418800017408 == some Ordering.eq) = true
theorem mean_facts (l : List Nat) (hb : ∀ x ∈ l, x < 18446744073709551616) (hl : l.length ≤ 1000) : MeanFacts (Fl.meanOf l) := by
  have hc := Fl.mean_le l hb hl
  have hi := Nat.lt_of_le_of_lt hc Fl.one_inf
  refine ⟨?_, ?_, ?_⟩
  · unfold Fl.bitsOf; rw [(pos_word hi).1]; rfl
  · rw [ge_words hi (by decide)]; simp
  · rw [le_words hi (by decide)]; exact decide_eq_true hc

set_option maxRecDepth 100000 in
set_option maxHeartbeats 1600000 in
theorem means_walk (a0 : Option Addr) (len0 cap0 : Nat) (z0 : List Int) (w : World) (w0 : Row .u64 w a0 len0 cap0 z0) :
    Calls Try.prog 5 #[.slice a0 len0 cap0] w fun e w' => e = .returned (.bool true) ∧ Below w.heap.size w w' := by
  have hmax : len0 ≤ 9223372036854775807 := by
    rcases w0 with ⟨_, h, _⟩ | ⟨_, _, h1, h2, _⟩
    · omega
    · unfold maxLen at h2; omega
  obtain ⟨l, hlen, hb, hrow⟩ := row_words w0
  clear w0
  by_cases c100 : 100 < len0
  · have hd : decide ((100 : Int) < (len0 : Int)) = true := decide_eq_true (by omega)
    clear hrow hb hlen
    go_enter Try.func5, Try.ntmps5
    go_wp2_with fail
    refine (awake_bl _).mono ?_; rintro e w1 ⟨rfl, hg⟩
    have HG := Lib.hid hg
    clear hg
    go_wp2
    go_ret
    exact ⟨rfl, HG.out⟩
  · have h100 : len0 ≤ 100 := by omega
    have hd : decide ((100 : Int) < (len0 : Int)) = false := decide_eq_false (by omega)
    have he := ext_fromN
    have hf := ext_bits
    obtain ⟨i0, hi, hz0, hz1, hz2⟩ := info_parts info_float
    have HI := Lib.hid (And.intro hi (And.intro hz0 (And.intro hz1 hz2)))
    clear hi hz0 hz1 hz2
    obtain ⟨f1, f2, f3⟩ := mean_facts l hb (by omega)
    have HB := Lib.hid hb
    have HL := Lib.hid hlen
    have HM : Hid (∀ (wx : World) (v : Value), wx.ownsRow w.heap.size 24 1 v l.length (fl l) → Calls Try.prog 23 #[v] wx fun e w' => e = .returned (.float .f64 (Fl.meanOf l)) ∧ wx = w') :=
      Lib.hid fun wx v h => mean_own h hb (by omega)
    have HR : Hid (∀ (wx : World) (v : Value), wx.ownsRow w.heap.size 24 1 v l.length (fl l) → Calls Try.prog 24 #[v] wx fun e w' => e = .returned (.float .f64 (Fl.meanOf l)) ∧ wx = w') :=
      Lib.hid fun wx v h => rmean_own h hb (by omega)
    have HROW := Lib.hid hrow
    generalize Fl.meanOf l = m at *
    clear hb hlen c100 hrow
    have hcase : len0 = 0 ∨ ∃ b off, a0 = some ⟨b, off, none⟩ ∧ Hid (b < w.heap.size ∧ ∀ k, k < len0 → w.cell? ⟨b, off + k, none⟩ = some (.int .u64 ((l.getD k 0 : Nat) : Int))) := HROW.out
    clear HROW
    have hcell : ∀ (wr : World) k, Below w.heap.size w wr → k < len0 → ∃ b off, a0 = some ⟨b, off, none⟩ ∧ wr.cell? ⟨b, off + k, none⟩ = some (.int .u64 ((l.getD k 0 : Nat) : Int)) := by
      intro wr k hbl hk
      rcases hcase with h | ⟨b, off, e, h⟩
      · omega
      · exact ⟨b, off, e, by rw [hbl.cell (by exact h.out.1)]; exact h.out.2 k hk⟩
    have HC := Lib.hid hcell
    clear hcell hcase
    go_enter Try.func5, Try.ntmps5
    go_wp2_with fail
    refine (awake_bl _).mono ?_; rintro e w1 ⟨rfl, hg⟩
    have HG := Lib.hid hg
    clear hg
    go_wp2
    go_loopw [4, 5] (fun v i wr => ∃ k : Nat, k ≤ len0 ∧ i = .int .i64 k ∧ wr.ownsRow w.heap.size 24 1 v k (fl (l.take k)) ∧ Below w.heap.size w wr) (fun _ i _ => len0 - (intOf i).toNat)
    case atStart => exact ⟨0, Nat.zero_le _, rfl, World.ownsRow_nil _ _ _ _, HG.out⟩
    case round =>
      obtain ⟨k, hk, rfl, hown, hnx⟩ := hrel
      have HO := Lib.hid hown
      have HN := Lib.hid hnx
      clear hown hnx
      by_cases c : k < len0
      · obtain ⟨b, off, rfl, hcl⟩ := HC.out wr k HN.out c
        have HS := Lib.hid (fl_snoc l k (by rw [HL.out]; exact c))
        obtain ⟨v, hv⟩ : ∃ v, l.getD k 0 = v := ⟨_, rfl⟩
        rw [hv] at hcl HS
        clear hv
        go_wp2_with (at_builtin; refine wpList_append_own _ rfl (.tmp 18) (.tmp 24) 32 rfl w.heap.size 24 i0 (.float .f64 0) 1 8 Try.underlying32 HI.out.1 HI.out.2.1 HI.out.2.2.1 HI.out.2.2.2 rfl (by decide) _ _ _ rfl (HO.out.alloc _) ⟨wr.heap.size, 0, none⟩ 1 1 [.float .f64 v] rfl rfl ?c1 ?c2 ?c3 ?c4 ?c5 ?_)
        case c1 =>
          intro j u hj
          match j, hj with
          | 0, hj => simp at hj; subst hj; simp [Addr.add]
        case c2 => intro u hu; simp at hu; subst hu; rfl
        case c3 => unfold maxLen; omega
        case c4 => omega
        case c5 => have := HN.out.size; simp; omega
        intro v' w2 hown' hgrow _
        have HO' := Lib.hid hown'
        have HB' : Hid (Below w.heap.size w w2) := Lib.hid ((HN.out.alloc (by have := HN.out.size; omega) _).grown hgrow (by have := HN.out.size; simp; omega) (fun g hgk => (HO.out.lt g hgk).1))
        clear hown' hgrow
        go_wp2
        go_roundw
        case rel => exact ⟨k + 1, by omega, by go_num, by rw [HS.out]; exact HO'.out, HB'.out⟩
        case measure => simp [intOf]; omega
      · have e : k = len0 := by omega
        have HO2 : Hid (wr.ownsRow w.heap.size 24 1 u4 l.length (fl l)) := Lib.hid (by have := HO.out; rw [e, ← HL.out, List.take_length] at this; exact this)
        clear e
        go_wp2_with fail
        refine (HM.out _ _ HO2.out).mono ?_; rintro e w' ⟨rfl, rfl⟩
        go_wp2_with (go_at_call 17; refine (bits_any _ _).mono ?_; rintro e w' ⟨rfl, rfl⟩)
        refine (HR.out _ _ HO2.out).mono ?_; rintro e w' ⟨rfl, rfl⟩
        go_wp2
        go_ret
        exact ⟨rfl, HN.out⟩

end Go.Proofs.Ytambmendeomknaa
