/-
  The walk of the statement on one score's mean.
-/
import Derived.Test.YtambmendeomknaaLd
import Derived.Maps.AppendAt
namespace Go.Proofs.Ytambmendeomknaa
open Go.RowKit

def cleans (l : List Nat) : List Nat := l.map Fl.cleanOf
theorem sum_cleans (l : List Nat) (hb : ∀ x ∈ l, x < 18446744073709551616) (s : Nat) : (cleans l).foldl (fun s x => Fl.addOf s (Fl.cleanOf x)) s = l.foldl (fun s x => Fl.addOf s (Fl.cleanOf x)) s := by
  induction l generalizing s with
  | nil => rfl
  | cons x l ih =>
    simp only [cleans, List.map_cons, List.foldl_cons]
    rw [clean_small (Fl.cleanOf_le x (hb x (by simp)))]
    exact ih (fun y hy => hb y (by simp [hy])) _
theorem mean_cleans (l : List Nat) (hb : ∀ x ∈ l, x < 18446744073709551616) : Fl.meanOf (cleans l) = Fl.meanOf l := by
  unfold Fl.meanOf Fl.sumOf
  rw [sum_cleans l hb 0]
  simp [cleans]
theorem cleans_bd (l : List Nat) (hb : ∀ x ∈ l, x < 18446744073709551616) : ∀ x ∈ cleans l, x < 18446744073709551616 := by
  intro x hx
  obtain ⟨y, hy, rfl⟩ := List.mem_map.1 hx
  exact clean_bd y (hb y hy)
theorem cleans_snoc (l : List Nat) (k : Nat) (h : k < l.length) : fl (cleans (l.take (k + 1))) = fl (cleans (l.take k)) ++ [.float .f64 (Fl.cleanOf (l.getD k 0))] := by
  rw [Fl.take_snoc l k h]; simp [fl, cleans]
theorem bits_bits (x : Nat) : Fl.bitsOf (Fl.bitsOf x) = Fl.bitsOf x := by
  unfold Fl.bitsOf
  cases h : Fl.isNaN x
  · simp [h]
  · simp
theorem kind_bits (x : Nat) : Fl.kindOf (Fl.bitsOf x) = Fl.kindOf x := by
  unfold Fl.bitsOf
  cases h : Fl.isNaN x
  · simp
  · have a := (Fl.kind_key x).2.2.1.2 h
    rw [a, if_pos rfl]; decide
theorem bits_bd (x : Nat) (hx : x < 18446744073709551616) : Fl.bitsOf x < 18446744073709551616 := by
  unfold Fl.bitsOf; split <;> omega

/-- Two slices that lie in no common row. -/
def Apart (v u : Value) : Prop := ∀ g, v.ownBlock = some g → u.ownBlock ≠ some g
theorem Apart.nil (u : Value) : Apart (.slice none 0 0) u := fun g h => by simp [Value.ownBlock] at h
theorem Apart.symm {v u : Value} (h : Apart v u) : Apart u v := fun g a b => h g b a
theorem Apart.kept {v u : Value} (h : Apart v u) : u.ownBlock = none ∨ u.ownBlock ≠ v.ownBlock := by
  cases e : u.ownBlock with
  | none => exact Or.inl rfl
  | some g => exact Or.inr (fun a => h g a.symm e)
theorem Apart.step {v u v' : Value} {B N : Nat} (h : Apart v u) (hn : v'.ownBlock = v.ownBlock ∨ v'.ownBlock = some N) (hu : ∀ g, u.ownBlock = some g → B ≤ g ∧ g < N) : Apart v' u := by
  intro g a b
  rcases hn with e | e
  · exact h g (e ▸ a) b
  · rw [e] at a
    have := hu g b
    injection a with a
    omega

theorem mean_single (x b : Nat) (w : World) (hx : x < 18446744073709551616) (h0 : w.cell? ⟨b, 0, none⟩ = some (.float .f64 x)) :
    Calls Try.prog 23 #[.slice (some ⟨b, 0, none⟩) 1 1] w fun e w' => e = .returned (.float .f64 (Fl.cleanOf x)) ∧ w = w' := by
  rw [← Fl.mean_one x hx]
  refine mean_row b 0 1 1 [x] w rfl (by simpa using hx) (by omega) (by omega) ?_
  intro k hk
  match k, hk with
  | 0, _ => exact h0

set_option maxRecDepth 100000 in
set_option maxHeartbeats 1600000 in
theorem one_walk (a0 : Int) (a1 : Option Addr) (len1 cap1 : Nat) (z1 : List Int) (w : World) (w0 : (Lit.int .u64 a0).wf = true) (w1 : Row .u64 w a1 len1 cap1 z1) :
    Calls Try.prog 8 #[.int .u64 a0, .slice a1 len1 cap1] w fun e w' => e = .returned (.bool true) ∧ Below w.heap.size w w' := by
  obtain ⟨x, rfl, hx⟩ := u64_nat w0
  have hmax : len1 ≤ 9223372036854775807 := by
    rcases w1 with ⟨_, h, _⟩ | ⟨_, _, h1, h2, _⟩
    · omega
    · unfold maxLen at h2; omega
  obtain ⟨l, hlen, hb, hrow⟩ := row_words w1
  clear w1 w0
  by_cases c50 : 50 < len1
  · have hd : decide ((50 : Int) < (len1 : Int)) = true := decide_eq_true (by omega)
    clear hrow hb hlen hx
    go_enter Try.func8, Try.ntmps8
    go_wp2_with fail
    refine (awake_bl _).mono ?_; rintro e w1 ⟨rfl, hg⟩
    have HG := Lib.hid hg
    clear hg
    go_wp2
    go_ret
    exact ⟨rfl, HG.out⟩
  · have h50 : len1 ≤ 50 := by omega
    have hd : decide ((50 : Int) < (len1 : Int)) = false := decide_eq_false (by omega)
    obtain ⟨i0, hi, hz0, hz1, hz2⟩ := info_parts info_float
    have HI := Lib.hid (And.intro hi (And.intro hz0 (And.intro hz1 hz2)))
    clear hi hz0 hz1 hz2
    have HL := Lib.hid hlen
    have HX := Lib.hid hx
    have HBX := Lib.hid (bits_bd x hx)
    have g1 := bits_bits x
    have g2 := kind_bits x
    have HM : Hid (∀ (wx : World) (v : Value), wx.ownsRow w.heap.size 24 1 v l.length (fl l) → Calls Try.prog 23 #[v] wx fun e w' => e = .returned (.float .f64 (Fl.meanOf l)) ∧ wx = w') :=
      Lib.hid fun wx v h => mean_own h hb (by omega)
    have HR : Hid (∀ (wx : World) (v : Value), wx.ownsRow w.heap.size 24 1 v l.length (fl (cleans l)) → Calls Try.prog 23 #[v] wx fun e w' => e = .returned (.float .f64 (Fl.meanOf l)) ∧ wx = w') :=
      Lib.hid fun wx v h => by
        rw [← mean_cleans l hb]
        have hl : l.length = (cleans l).length := by simp [cleans]
        rw [hl] at h
        exact mean_own h (cleans_bd l hb) (by simp [cleans]; omega)
    have hcell : ∀ (wr : World) k, Below w.heap.size w wr → k < len1 → ∃ b off, a1 = some ⟨b, off, none⟩ ∧ b < w.heap.size ∧ wr.cell? ⟨b, off + k, none⟩ = some (.int .u64 ((l.getD k 0 : Nat) : Int)) := by
      intro wr k hbl hk
      rcases hrow with h | ⟨b, off, e, h, h'⟩
      · omega
      · exact ⟨b, off, e, h, by rw [hbl.cell (by exact h)]; exact h' k hk⟩
    have HC := Lib.hid hcell
    clear hcell hrow hb hlen c50 hx
    go_enter Try.func8, Try.ntmps8
    go_wp2_with fail
    refine (awake_bl _).mono ?_; rintro e w1 ⟨rfl, hg⟩
    have HG := Lib.hid hg
    clear hg
    go_wp2_with (go_at_call 22; refine (of_nat _ _).mono ?_; rintro e w' ⟨rfl, rfl⟩)
    go_loopw [7, 8, 9] (fun v u i wr => ∃ k : Nat, k ≤ len1 ∧ i = .int .i64 k ∧ wr.ownsRow w.heap.size 24 1 v k (fl (l.take k)) ∧ wr.ownsRow w.heap.size 24 1 u k (fl (cleans (l.take k))) ∧ Apart v u ∧ Below w.heap.size w wr) (fun _ _ i _ => len1 - (intOf i).toNat)
    case atStart => exact ⟨0, Nat.zero_le _, rfl, World.ownsRow_nil _ _ _ _, World.ownsRow_nil _ _ _ _, Apart.nil _, HG.out⟩
    case round =>
      obtain ⟨k, hk, rfl, hown, hown2, hap, hnx⟩ := hrel
      have HO := Lib.hid hown
      have HP := Lib.hid hown2
      have HA := Lib.hid hap
      have HN := Lib.hid hnx
      clear hown hown2 hap hnx
      by_cases c : k < len1
      · obtain ⟨b, off, rfl, hbl, hcl⟩ := HC.out wr k HN.out c
        have HBL := Lib.hid hbl
        clear hbl
        have HS := Lib.hid (fl_snoc l k (by rw [HL.out]; exact c))
        have HT := Lib.hid (cleans_snoc l k (by rw [HL.out]; exact c))
        obtain ⟨v, hv⟩ : ∃ v, l.getD k 0 = v := ⟨_, rfl⟩
        rw [hv] at hcl HS HT
        clear hv
        go_wp2_with (first | (at_builtin; refine wpList_append_own_at _ rfl (.tmp 25) (.tmp 31) 32 rfl w.heap.size 24 i0 (.float .f64 0) 1 8 Try.underlying32 HI.out.1 HI.out.2.1 HI.out.2.2.1 HI.out.2.2.2 rfl (by decide) _ _ _ rfl (HO.out.alloc _) ⟨wr.heap.size, 0, none⟩ 1 1 [.float .f64 v] rfl rfl ?c1 ?c2 ?c3 ?c4 ?c5 ?_) | (go_at_call 22; refine (of_nat _ _).mono ?_; rintro e w' ⟨rfl, rfl⟩))
        case c1 => exact cell_one_new _ _ _
        case c2 => intro u hu; simp at hu; subst hu; rfl
        case c3 => unfold maxLen; omega
        case c4 => omega
        case c5 => have := HN.out.size; simp; omega
        intro v' w2 hown' hgrow _ hat
        have HO' := Lib.hid hown'
        have HB' : Hid (Below w.heap.size w w2) := Lib.hid ((HN.out.alloc (by have := HN.out.size; omega) _).grown hgrow (by have := HN.out.size; simp; omega) (fun g hgk => (HO.out.lt g hgk).1))
        have HP' : Hid (w2.ownsRow w.heap.size 24 1 u8 k (fl (cleans (l.take k)))) := Lib.hid ((HP.out.alloc _).kept hgrow HA.out.kept)
        have HA' : Hid (Apart v' u8) := Lib.hid (HA.out.step (N := wr.heap.size + 1) (by simpa using hat) (fun g hg => by have := HP.out.lt g hg; exact ⟨this.1, by omega⟩))
        have hcl2 : w2.cell? ⟨b, off + k, none⟩ = some (.int .u64 (v : Int)) := by
          rw [HB'.out.cell (by exact HBL.out), ← HN.out.cell (by exact HBL.out)]; exact hcl
        clear hown' hgrow hat hcl
        go_wp2_with (first | (at_builtin; refine wpList_append_own_at _ rfl (.tmp 33) (.tmp 40) 32 rfl w.heap.size 24 i0 (.float .f64 0) 1 8 Try.underlying32 HI.out.1 HI.out.2.1 HI.out.2.2.1 HI.out.2.2.2 rfl (by decide) _ _ _ rfl (HP'.out.alloc _) ⟨w2.heap.size, 0, none⟩ 1 1 [.float .f64 (Fl.cleanOf v)] rfl rfl ?d1 ?d2 ?d3 ?d4 ?d5 ?_) | (go_at_call 22; refine (of_nat _ _).mono ?_; rintro e w' ⟨rfl, rfl⟩) | (go_at_call 18; refine (clean_any _ _).mono ?_; rintro e w' ⟨rfl, rfl⟩))
        case d1 => exact cell_one_new _ _ _
        case d2 => intro u hu; simp at hu; subst hu; rfl
        case d3 => unfold maxLen; omega
        case d4 => omega
        case d5 => have := HB'.out.size; simp; omega
        intro u' w3 hown' hgrow _ hat
        have HP'' := Lib.hid hown'
        have HB'' : Hid (Below w.heap.size w w3) := Lib.hid ((HB'.out.alloc (by have := HB'.out.size; omega) _).grown hgrow (by have := HB'.out.size; simp; omega) (fun g hgk => (HP'.out.lt g hgk).1))
        have HO'' : Hid (w3.ownsRow w.heap.size 24 1 v' (k + 1) (fl (l.take k) ++ [.float .f64 v])) := Lib.hid ((HO'.out.alloc _).kept hgrow HA'.out.symm.kept)
        have HA'' : Hid (Apart v' u') := Lib.hid (HA'.out.symm.step (N := w2.heap.size + 1) (by simpa using hat) (fun g hg => by have := HO'.out.lt g hg; exact ⟨this.1, by omega⟩)).symm
        clear hown' hgrow hat hcl2
        go_wp2
        go_roundw
        case rel => exact ⟨k + 1, by omega, by go_num, by rw [HS.out]; exact HO''.out, by rw [HT.out]; exact HP''.out, HA''.out, HB''.out⟩
        case measure => simp [intOf]; omega
      · have e : k = len1 := by omega
        have HO2 : Hid (wr.ownsRow w.heap.size 24 1 u7 l.length (fl l)) := Lib.hid (by have := HO.out; rw [e, ← HL.out, List.take_length] at this; exact this)
        have HP2 : Hid (wr.ownsRow w.heap.size 24 1 u8 l.length (fl (cleans l))) := Lib.hid (by have := HP.out; rw [e, ← HL.out, List.take_length] at this; exact this)
        clear e
        go_wp2_with (go_at_call 17; refine (bits_any _ _).mono ?_; rintro e w' ⟨rfl, rfl⟩)
        refine (mean_single x _ _ HX.out ?_).mono ?_
        · simp
        rintro e w' ⟨rfl, rfl⟩
        go_wp2_with (first | (go_at_call 17; refine (bits_any _ _).mono ?_; rintro e w' ⟨rfl, rfl⟩) | (go_at_call 18; refine (clean_any _ _).mono ?_; rintro e w' ⟨rfl, rfl⟩))
        refine (HM.out _ _ (HO2.out.alloc _)).mono ?_; rintro e w' ⟨rfl, rfl⟩
        go_wp2_with (go_at_call 17; refine (bits_any _ _).mono ?_; rintro e w' ⟨rfl, rfl⟩)
        refine (HR.out _ _ (HP2.out.alloc _)).mono ?_; rintro e w' ⟨rfl, rfl⟩
        go_wp2_with (first | (go_at_call 17; refine (bits_any _ _).mono ?_; rintro e w' ⟨rfl, rfl⟩) | (go_at_call 22; refine (of_nat _ _).mono ?_; rintro e w' ⟨rfl, rfl⟩))
        refine (kind_any _ _ HBX.out).mono ?_; rintro e w' ⟨rfl, rfl⟩
        go_wp2_with fail
        refine (kind_any _ _ HX.out).mono ?_; rintro e w' ⟨rfl, rfl⟩
        go_wp2
        go_ret
        exact ⟨rfl, HN.out.alloc HN.out.size _⟩

end Go.Proofs.Ytambmendeomknaa
