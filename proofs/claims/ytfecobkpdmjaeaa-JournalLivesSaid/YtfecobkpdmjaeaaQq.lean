/-
  The walk of JournalBack.
-/
import Derived.Test.YtfecobkpdmjaeaaQo
import Derived.Test.YtfecobkpdmjaeaaQp
namespace Go.Proofs.Ytfecobkpdmjaeaa
open Go.RowKit
set_option linter.unusedVariables false
set_option linter.unusedSimpArgs false
set_option maxRecDepth 20000
theorem Txs.at_ {w : World} {S : Nat → Prop} {a : Option Addr} {n : Nat} {ps : List (List Int)} (h : Txs w S a n ps) {i : Nat} (hi : i < n) : ∃ b off x m c, a = some ⟨b, off, none⟩ ∧ S b ∧ b < w.heap.size ∧ w.cell? ⟨b, off + i, none⟩ = some (.slice x m c) ∧ Txt w S x m c (ps.getD i []) ∧ c ≤ maxLen := by
  obtain ⟨b, off, rfl, hs, hb, hc⟩ := h.2.2.resolve_left (by omega)
  obtain ⟨x, m, c, h1, h2, h3⟩ := hc i (ps.getD i []) (by have := h.2.1; rw [List.getD_eq_getElem?_getD, List.getElem?_eq_getElem (by omega)]; rfl)
  have h4 := h1 0 _ rfl
  rw [Nat.mul_one, Nat.add_zero] at h4
  exact ⟨b, off, x, m, c, rfl, hs, hb, h4, h2, h3⟩
/-- A row of the call's own, whose elements are texts. -/
def Want (w : World) (B : Nat) (S : Nat → Prop) (v : Value) (L : List (List Int)) : Prop := ∃ vs, w.ownsRow B 37 1 v L.length vs ∧ ∀ (k : Nat) (l : List Int), L[k]? = some l → ∃ a n c, (vs : List Value)[k]? = some (.slice a n c) ∧ Txt w S a n c l
theorem Want.nil (w : World) (B : Nat) (S : Nat → Prop) : Want w B S (.slice none 0 0) [] := ⟨[], World.ownsRow_nil w B _ 1, fun k l h => by simp at h⟩
theorem Want.keep {w w' : World} {B : Nat} {S : Nat → Prop} {v : Value} {L : List (List Int)} (h : Want w B S v L) (hz : w.heap.size ≤ w'.heap.size) (hk : ∀ (g : Nat) (cur : Array Value), B ≤ g → w.heap[g]? = some (.cells cur 37 (0, 0)) → w'.heap[g]? = w.heap[g]?) (hs : ∀ b, b < w.heap.size → S b → w'.heap[b]? = w.heap[b]?) : Want w' B S v L := by
  obtain ⟨vs, h1, h2⟩ := h
  refine ⟨vs, own_keepB h1 hk, fun k l hl => ?_⟩
  obtain ⟨a, n, c, hv, ht⟩ := h2 k l hl
  exact ⟨a, n, c, hv, ht.keep hz hs⟩
theorem Want.below {w w' : World} {B : Nat} {S : Nat → Prop} {v : Value} {L : List (List Int)} (h : Want w B S v L) (hb : Below w.heap.size w w') : Want w' B S v L :=
  h.keep hb.size (fun g cur _ hc => hb.block g (Array.getElem?_eq_some_iff.1 hc).1) (fun b hb' _ => hb.block b hb')
theorem Want.more {w w' : World} {B : Nat} {S : Nat → Prop} {v v' : Value} {a : Option Addr} {n c : Nat} {L : List (List Int)} {vs : List Value} {l : List Int} (h2 : ∀ (k : Nat) (l : List Int), L[k]? = some l → ∃ a n c, (vs : List Value)[k]? = some (.slice a n c) ∧ Txt w S a n c l) (hown : w.ownsRow B 37 1 v L.length vs) (hu : Txt w S a n c l) (hS : ∀ b, S b → b < B)
    (h' : w'.ownsRow B 37 1 v' (L.length + 1) (vs ++ [.slice a n c])) (hg : w.grownBy w' v.ownBlock) : Want w' B S v' (L ++ [l]) := by
  have hlen : vs.length = L.length := by have := hown.1; omega
  have keepU : ∀ {a : Option Addr} {n c : Nat} {m : List Int}, Txt w S a n c m → Txt w' S a n c m := fun hx => hx.keep hg.size fun b hb hs => hg.block b hb (fun e => by
    obtain ⟨cur2, hB2, hc2⟩ := row_block hown e.symm
    have := hS b hs
    omega)
  refine ⟨vs ++ [.slice a n c], by rw [List.length_append]; exact h', fun k m hm => ?_⟩
  by_cases hk : k < L.length
  · rw [List.getElem?_append_left hk] at hm
    obtain ⟨a1, n1, c1, hx, hr⟩ := h2 k m hm
    exact ⟨a1, n1, c1, by rw [List.getElem?_append_left (by omega)]; exact hx, keepU hr⟩
  · rw [List.getElem?_append_right (by omega)] at hm
    have : k - L.length = 0 := by have := (List.getElem?_eq_some_iff.1 hm).1; simp at this; omega
    rw [this] at hm
    simp at hm
    subst hm
    exact ⟨a, n, c, by rw [List.getElem?_append_right (by omega), hlen, this]; rfl, keepU hu⟩
theorem Want.parts {w : World} {B : Nat} {S : Nat → Prop} {v : Value} {L : List (List Int)} (h : Want w B S v L) : ∃ q c, v = .slice q L.length c ∧ Parts w (fun b => B ≤ b ∨ S b) q L.length L := by
  obtain ⟨vs, h1, h2⟩ := h
  rcases h1.2 with ⟨rfl, h0⟩ | ⟨g, cap, cur, rfl, hB, hg, hnc, hcm, hcs, hct⟩
  · exact ⟨none, 0, by rw [h0], rfl, Or.inl (List.eq_nil_of_length_eq_zero h0)⟩
  · refine ⟨_, _, rfl, rfl, Or.inr ⟨g, 0, rfl, Or.inl hB, (Array.getElem?_eq_some_iff.1 hg).1, fun k hk => ?_⟩⟩
    obtain ⟨a, n, c, hu, ht⟩ := h2 k (L.getD k []) (by simp [List.getD, hk])
    exact ⟨a, n, c, by have := h1.cells (g := g) rfl k _ hu; rw [Addr.add_lit] at this; exact this, ht.weak (fun b _ hs => Or.inr hs)⟩
/-- A journal on a disk, whose other blocks are 0, and what it is wanted to have. -/
structure Bk (w W : World) (B j p bb mb : Nat) (fr m N : Nat) (v vW : Value) (L M : List (List Int)) (u top life : Nat) (A : Dm.A) : Prop where
  jr : Jr w B j p v (fr + u) (m - u) life L
  dk : Dk w p bb mb A N
  up : A.down = false
  clean : Clean A fr m L u top
  want : Want w B (· < W.heap.size) vW M
  below : Below W.heap.size W w
  short : ∀ l ∈ L, l.length ≤ 300
  sep : ∀ g, vW.ownBlock = some g → v.ownBlock ≠ some g
theorem Bk.step {w w' W : World} {B j p bb mb fr m N : Nat} {v vW : Value} {L M : List (List Int)} {u top life : Nat} {A : Dm.A} (h : Bk w W B j p bb mb fr m N v vW L M u top life A) (hb : Below w.heap.size w w') : Bk w' W B j p bb mb fr m N v vW L M u top life A :=
  ⟨h.jr.below hb, h.dk.old hb, h.up, h.clean, h.want.below hb, h.below.trans (hb.mono h.below.size), h.short, h.sep⟩
theorem want_only {w w' : World} {B j p bb mb N : Nat} {v vW : Value} {next room life : Nat} {L L2 : List (List Int)} {A : Dm.A} {S : Nat → Prop} (h : Want w B S vW L) (hj : Jr w B j p v next room life L2) (hd : Dk w p bb mb A N) (ho : Only [p, bb, mb, j] w w') (hS : ∀ b, S b → b ∉ [p, bb, mb, j]) : Want w' B S vW L := by
  refine h.keep ho.size (fun g cur _ hc => ho.block g (Array.getElem?_eq_some_iff.1 hc).1 ?_) (fun b hb hs => ho.block b hb (hS b hs))
  obtain ⟨d1, d2, d3⟩ := dk_types hd hc
  have d4 : g ≠ j := fun e => by
    subst e
    have h2 := hj.cells
    unfold Whole at h2
    rw [h2] at hc
    injection hc with h3
    injection h3 with _ h4
    exact absurd h4 (by decide)
  simp only [List.mem_cons, List.not_mem_nil, or_false, not_or]
  exact ⟨d1 (by decide), d2 (by decide), d3, d4⟩
/-- Where the journal and its disk lie. -/
structure Pl (W : World) (B j p bb mb : Nat) : Prop where
  lp : W.heap.size ≤ p
  lbb : W.heap.size ≤ bb
  lmb : W.heap.size ≤ mb
  bB : bb < B
  lj : W.heap.size ≤ j
  lB : W.heap.size ≤ B
theorem bk_append {w W : World} {B j p bb mb fr m N : Nat} {v vW : Value} {L M : List (List Int)} {u top life : Nat} {A : Dm.A} {x : Option Addr} {n c : Nat} {r : List Int} (h : Bk w W B j p bb mb fr m N v vW L M u top life A) (hP : Pl W B j p bb mb) (ht : Txt w (· < W.heap.size) x n c r) (h0 : 0 < n) (h1 : n ≤ 300) (hf : Jl.need r ≤ m - u) (hN : fr + m ≤ N) (hl : 1 ≤ life) (hl2 : life ≤ 1099511627776) (htl : top ≤ life) (hLs : L.length ≤ 1000) (hBy : B ≤ w.heap.size) :
    Calls Try.prog 15 #[.pointer (some ⟨j, 0, none⟩), .slice x n c] w fun e w' => ∃ v', e = .returned (.int .i64 0) ∧ Bk w' W B j p bb mb fr m N v' vW (L ++ [r]) M (u + Jl.need r) life life (wrs A (fr + u) r life (Jl.need r)) ∧ w.heap.size ≤ w'.heap.size := by
  have hu := h.clean.le
  have hrn := ht.1
  refine (jAppend_ok h.jr h.dk hP.bB h.up ht (fun b hb => by have hb' : b < W.heap.size := hb; have h1 := hP.lp; have h2 := hP.lbb; have h3 := hP.lmb; have h4 := hP.lj; have h5 := h.below.size; omega) h0 (by omega) hf (by omega) ⟨by omega, fun l hl => by have := h.short l hl; omega⟩ (by omega) hBy).mono ?_
  rintro e w' ⟨v', rfl, hj, hd, ho, hv'⟩
  have hS : ∀ x ∈ [p, bb, mb, j], W.heap.size ≤ x := by
    have h1 := hP.lp; have h2 := hP.lbb; have h3 := hP.lmb; have h4 := hP.lj
    intro x hx
    simp at hx
    omega
  have hr : r ≠ [] := by intro e; rw [e] at hrn; simp at hrn; omega
  refine ⟨v', rfl, ⟨?_, hd, by rw [wrs_down]; exact h.up, h.clean.more hr (by omega) hl htl (by omega), want_only h.want h.jr h.dk ho (fun b hb hm => by have := hS b hm; have hb' : b < W.heap.size := hb; omega), ho.aft h.below hS, fun l hl => ?_, fun g hg e => ?_⟩, ho.size⟩
  · rw [Nat.add_assoc, Nat.sub_sub] at hj
    exact hj
  · rcases List.mem_append.1 hl with hl | hl
    · exact h.short l hl
    · rw [List.mem_singleton.1 hl]; omega
  · obtain ⟨vs, hv1, _⟩ := h.want
    obtain ⟨cur, _, hc⟩ := row_block hv1 hg
    have h1 := (Array.getElem?_eq_some_iff.1 hc).1
    have h2 := hv' g e
    omega
/-- One more is wanted. -/
theorem bk_want {w w' W : World} {B j p bb mb fr m N : Nat} {v vW v' : Value} {L M : List (List Int)} {u top life : Nat} {A : Dm.A} {x : Option Addr} {n c : Nat} {r : List Int} {vs : List Value} (h : Bk w W B j p bb mb fr m N v vW L M u top life A) (hP : Pl W B j p bb mb) (hv1 : w.ownsRow B 37 1 vW M.length vs) (hv2 : ∀ (k : Nat) (l : List Int), M[k]? = some l → ∃ a n c, (vs : List Value)[k]? = some (.slice a n c) ∧ Txt w (· < W.heap.size) a n c l) (ht : Txt w (· < W.heap.size) x n c r)
    (ho : w'.ownsRow B 37 1 v' (M.length + 1) (vs ++ [.slice x n c])) (hg : w.grownBy w' vW.ownBlock) (hn : v'.ownBlock = vW.ownBlock ∨ v'.ownBlock = some w.heap.size) : Bk w' W B j p bb mb fr m N v v' L (M ++ [r]) u top life A := by
  have hty : ∀ {g : Nat} {cur : Array Value} {t : TypeId}, w.heap[g]? = some (.cells cur t (0, 0)) → t ≠ 37 → some g ≠ vW.ownBlock := fun hc ht e => by
    obtain ⟨cur2, _, hc2⟩ := row_block hv1 e.symm
    rw [hc] at hc2
    injection hc2 with h3
    injection h3 with _ h4
    exact ht h4
  have keepB : ∀ {g : Nat} {cur : Array Value} {t : TypeId}, w.heap[g]? = some (.cells cur t (0, 0)) → t ≠ 37 → w'.heap[g]? = w.heap[g]? := fun hc ht => hg.block _ (Array.getElem?_eq_some_iff.1 hc).1 (hty hc ht)
  refine ⟨⟨h.jr.cells.keep (keepB h.jr.cells (by decide)), h.jr.recs.keepV (fun g hg' => ?_) (fun g cur _ hc => keepB hc (by decide))⟩, h.dk.keep (keepB h.dk.cells (by decide)) (keepB h.dk.bytes (by decide)) (hg.block mb h.dk.map.lt (fun e => ?_)), h.up, h.clean, Want.more hv2 hv1 ht (fun b hb => by have hb' : b < W.heap.size := hb; have := hP.lB; omega) ho hg, ?_, h.short, fun g hg' e => ?_⟩
  · obtain ⟨vs2, hr1, _⟩ := h.jr.recs
    obtain ⟨cur, _, hc⟩ := row_block hr1 hg'
    exact hg.block g (Array.getElem?_eq_some_iff.1 hc).1 (fun e => h.sep g e.symm hg')
  · obtain ⟨cur2, _, hc2⟩ := row_block hv1 e.symm
    obtain ⟨es, clock, hm, _⟩ := h.dk.map
    rw [hm] at hc2
    injection hc2 with h3
    cases h3
  · exact below_own h.below h.below.size hg (fun q hq => by have := (row_block hv1 hq).choose_spec.1; have := hP.lB; omega)
  · rcases hn with hn | hn
    · exact h.sep g (by rw [← hn]; exact hg') e
    · rw [hn] at hg'
      injection hg' with hg'
      obtain ⟨vs2, hr1, _⟩ := h.jr.recs
      obtain ⟨cur, _, hc⟩ := row_block hr1 e
      have := (Array.getElem?_eq_some_iff.1 hc).1
      omega
set_option maxHeartbeats 8000000 in
set_option maxRecDepth 100000 in
theorem back_walk (pa : Option Addr) (pl pc : Nat) (ps : List (List Int)) (w : World) (hps : Txs w (· < w.heap.size) pa pl ps) :
    Calls Try.prog 6 #[.slice pa pl pc] w fun e w' => e = .returned (.bool true) ∧ Below w.heap.size w w' := by
  have hpm := hps.1
  unfold maxLen at hpm
  have HL0 := Lib.hid hps
  clear hps
  go_enter Try.func6, Try.ntmps6
  go_wp2_with fail
  refine awake_any.mono ?_
  rintro e w1 ⟨rfl, hb1⟩
  have HB1 := Lib.hid hb1
  clear hb1
  go_wp2_with fail
  refine (new_ok (n := 100) (by omega)).mono ?_
  rintro e w2 ⟨p, bb, mb, rfl, hd2, hp, hbb, hmb, hb2⟩
  have hs1 := HB1.out.size
  have HP : Hid (w.heap.size ≤ p ∧ w.heap.size ≤ bb ∧ w.heap.size ≤ mb ∧ p < w2.heap.size ∧ bb < w2.heap.size ∧ mb < w2.heap.size) := Lib.hid ⟨by omega, by omega, by omega, hd2.cells.lt, hd2.bytes.lt, hd2.map.lt⟩
  have H2 := Lib.hid (And.intro hd2 (HB1.out.trans (hb2.mono hs1)))
  clear hb2 hd2 hp hbb hmb hs1 HB1
  go_wp2_with fail
  refine (open_any (fr := 0) (m := 100) H2.out.1 rfl (by omega)).mono ?_
  rintro e w3 ⟨j, v, rfl, hj3, hjs, hb3⟩
  have hcl := clean_fresh 100 0 100 (by omega)
  obtain ⟨r1, r2, r3⟩ := hcl.reads
  rw [r1, r2, r3] at hj3
  have HJ : Hid (w2.heap.size ≤ j ∧ j < w3.heap.size ∧ w.heap.size ≤ w2.heap.size) := Lib.hid ⟨hjs, hj3.cells.lt, H2.out.2.size⟩
  have H3 : Hid (∃ v L u top A, Bk w3 w w2.heap.size j p bb mb 0 100 100 v (.slice none 0 0) L L u top 1 A ∧ top ≤ 1 ∧ u ≤ 7 * 0 ∧ L.length ≤ 0) := Lib.hid ⟨v, [], 0, 0, fresh 100, ⟨hj3, H2.out.1.old hb3, rfl, hcl, Want.nil _ _ _, H2.out.2.trans (hb3.mono H2.out.2.size), fun l hl => (by cases hl), fun g hg => (by cases hg)⟩, by omega, by omega, by simp⟩
  have HPL : Hid (Pl w w2.heap.size j p bb mb) := Lib.hid (by have h1 := HP.out; have h2 := HJ.out; exact ⟨by omega, by omega, by omega, by omega, by omega, by omega⟩)
  have HSZ : Hid (w2.heap.size ≤ w3.heap.size) := Lib.hid hb3.size
  clear hj3 hjs hb3 hcl r1 r2 r3 H2
  obtain ⟨B, hB⟩ : ∃ B, w2.heap.size = B := ⟨_, rfl⟩
  rw [hB] at H3 HPL HSZ
  clear hB HP HJ
  go_wp2
  go_loopw [8, 9, 10] (fun vW vi _ wr => ∃ i : Nat, i ≤ pl ∧ i ≤ 10 ∧ vi = .int .i64 (i : Int) ∧ Hid ((∃ v L u top A, Bk wr w B j p bb mb 0 100 100 v vW L L u top 1 A ∧ top ≤ 1 ∧ u ≤ 7 * i ∧ L.length ≤ i) ∧ B ≤ wr.heap.size)) (fun _ vi _ _ => 10 - (intOf vi).toNat)
  case atStart => exact ⟨0, Nat.zero_le _, Nat.zero_le _, rfl, Lib.hid ⟨H3.out, HSZ.out⟩⟩
  case round =>
    clear H3 HSZ
    obtain ⟨i, hi1, hi2, rfl, HB⟩ := hrel
    by_cases q1 : i < pl
    · have q1' : (i : Int) < (pl : Int) := by omega
      by_cases q2 : i < 10
      · have q2' : (i : Int) < 10 := by omega
        obtain ⟨v, L, u, top, A, hbk, htop, hu7, hLi⟩ := HB.out.1
        have HK := Lib.hid (And.intro hbk (And.intro htop (And.intro hu7 (And.intro hLi HB.out.2))))
        obtain ⟨tb, tof, x, n, c, rfl, htb, _, ct0, tt, tc⟩ := HL0.out.at_ q1
        obtain ⟨r, hr⟩ : ∃ r, ps.getD i [] = r := ⟨_, rfl⟩
        rw [hr] at tt
        have CT := Lib.hid (fun (wx : World) (hb : Below w.heap.size w wx) => show wx.cell? ⟨tb, tof + i, none⟩ = some (.slice x n c) from (World.cell?_of_block (hb.block tb htb)).trans ct0)
        have TT := Lib.hid (fun (wx : World) (hb : Below w.heap.size w wx) => show Txt wx (· < w.heap.size) x n c r from tt.keep hb.size (fun b hb' _ => hb.block b hb'))
        have ct := CT.out wr hbk.below
        unfold maxLen at tc
        have hnc : n ≤ c := tt.2.1
        have HR : Hid (r.length = n ∧ Jl.need r = (n + 43) / 44) := Lib.hid ⟨tt.1, by rw [← tt.1]; rfl⟩
        clear hbk htop hu7 hLi tt htb HB hr ct0
        by_cases q3 : 300 < n
        · have q3' : (300 : Int) < (n : Int) := by omega
          go_wp2
          go_roundw
          case rel => exact ⟨i + 1, by omega, by omega, by go_num, Lib.hid ⟨⟨v, L, u, top, A, HK.out.1, HK.out.2.1, by have := HK.out.2.2.1; omega, by have := HK.out.2.2.2.1; omega⟩, HK.out.2.2.2.2⟩⟩
          case measure => simp [intOf]; omega
        · have q3' : ¬ (300 : Int) < (n : Int) := by omega
          by_cases q4 : n = 0
          · subst q4
            go_wp2_with (first | (go_at_call 15; refine (jAppend_rec (Or.inl rfl)).mono ?_; rintro e w4 ⟨rfl, rfl⟩) | fail)
            go_roundw
            case rel => exact ⟨i + 1, by omega, by omega, by go_num, Lib.hid ⟨⟨v, L, u, top, A, HK.out.1, HK.out.2.1, by have := HK.out.2.2.1; omega, by have := HK.out.2.2.2.1; omega⟩, HK.out.2.2.2.2⟩⟩
            case measure => simp [intOf]; omega
          · have q4' : (0 : Int) < (n : Int) := by omega
            have q5 : decide (0 < n) = true := by simp; omega
            go_wp2_with fail
            refine (bk_append HK.out.1 HPL.out (TT.out wr HK.out.1.below) (by omega) (by omega) (by have := HR.out.2; have := HK.out.2.2.1; omega) (by omega) (by omega) (by omega) HK.out.2.1 (by have := HK.out.2.2.2.1; omega) HK.out.2.2.2.2).mono ?_
            rintro e w4 ⟨v4, rfl, hb4, hz4⟩
            have ct4 := CT.out w4 hb4.below
            obtain ⟨vs, hv1, hv2⟩ := hb4.want
            have hb5 := below_alloc w4 (.cells #[.slice x n c] 37)
            have hv1' := own_below hv1 hb5
            have hv2' : ∀ (k : Nat) (l : List Int), L[k]? = some l → ∃ a n1 c1, (vs : List Value)[k]? = some (.slice a n1 c1) ∧ Txt (w4.alloc (.cells #[.slice x n c] 37)) (· < w.heap.size) a n1 c1 l := fun k l hl => by
              obtain ⟨a1, n1, c1, hu, hr⟩ := hv2 k l hl
              exact ⟨a1, n1, c1, hu, hr.keep hb5.size (fun b hb _ => hb5.block b hb)⟩
            have hws : B ≤ (w4.alloc (.cells #[.slice x n c] 37)).heap.size := by have := HK.out.2.2.2.2; have := hb5.size; omega
            have hL1 : L.length ≤ 1000 := by have := HK.out.2.2.2.1; omega
            have H4 := Lib.hid (And.intro hb4 (And.intro hv1' (And.intro hv2' (And.intro (hb4.step hb5) hz4))))
            clear hb4 hv1 hv2 hb5 hv1' hv2' hz4
            go_wp2_with (first | (at_builtin; refine wpList_append_one rfl (.tmp 65) (.tmp 70) 48 37 (.slice none 0 0) 24 rfl Try.underlying48 sl_info rfl (by omega) B u8 L.length vs rfl H4.out.2.1 w4.heap.size 37 (.slice x n c) rfl (Whole.new _ _ _) rfl (by omega) hws ?_; intro v6 w6 ho6 hg6 hn6) | fail)
            have H6 := bk_want H4.out.2.2.2.1 HPL.out H4.out.2.1 H4.out.2.2.1 (TT.out _ H4.out.2.2.2.1.below) ho6 hg6 hn6
            have H6' := Lib.hid (And.intro H6 (And.intro hg6.size hws))
            clear H6 ho6 hg6 hn6
            go_roundw
            case rel => exact ⟨i + 1, by omega, by omega, by go_num, Lib.hid ⟨⟨v4, L ++ [r], _, _, _, H6'.out.1, by omega, by have := HR.out.2; have := HK.out.2.2.1; omega, by rw [List.length_append, List.length_singleton]; have := HK.out.2.2.2.1; omega⟩, by have := H6'.out.2.1; have := H6'.out.2.2; omega⟩⟩
            case measure => simp [intOf]; omega
      · have q2' : ¬ (i : Int) < 10 := by omega
        obtain ⟨v, L, u, top, A, hbk, htop, hu7, hLi⟩ := HB.out.1
        obtain ⟨q, cq, rfl, _⟩ := hbk.want.parts
        obtain ⟨N0, hN0⟩ : ∃ N0, L.length = N0 := ⟨_, rfl⟩
        rw [hN0] at hbk ⊢
        have HK := Lib.hid (And.intro hbk (And.intro hN0 (And.intro hLi HB.out.2)))
        have hN0' : N0 ≤ 10 := by omega
        clear hbk htop hu7 hLi HB hN0
        go_wp2_with fail
        refine (open_any (fr := 0) (m := 100) HK.out.1.dk HK.out.1.up (by omega)).mono ?_
        rintro e w4 ⟨k, v4, rfl, hj4, hjs4, hb4⟩
        obtain ⟨r1, r2, r3⟩ := HK.out.1.clean.reads
        rw [r1, r2] at hj4
        have H4 := Lib.hid (And.intro hj4 (HK.out.1.step hb4))
        clear hj4 hjs4 hb4 r1 r2 r3
        have hsh : Short L := ⟨by rw [HK.out.2.1]; omega, fun l hl => by have := HK.out.1.short l hl; omega⟩
        have HS := Lib.hid hsh
        clear hsh
        go_wp2_with fail
        refine (jRecords_any H4.out.2.jr HS.out).mono ?_
        rintro e w5 ⟨g5, rfl, hp5, hb5⟩
        have h6 := H4.out.2.step hb5
        obtain ⟨q6, c6, e6, hp6⟩ := h6.want.parts
        injection e6 with e6 e7 e8
        subst e6 e8
        clear e7
        rw [HK.out.2.1] at hp5 hp6 ⊢
        have H5 := Lib.hid (And.intro (H4.out.1.below hb5) (And.intro h6 (And.intro hp5 hp6)))
        clear hp5 hb5 h6 hp6
        go_wp2_with fail
        refine (sameR_any H5.out.2.2.1 H5.out.2.2.2 (by omega)).mono ?_
        rintro e w6 ⟨rfl, qn, rfl⟩
        have hb6 : Below w5.heap.size w5 (w5.drewN qn) := ⟨rfl, rfl, rfl, Nat.le_refl _, fun _ _ => rfl⟩
        obtain ⟨w6, hw6⟩ : ∃ w6, w5.drewN qn = w6 := ⟨_, rfl⟩
        rw [hw6] at hb6 ⊢
        have H6 := Lib.hid (And.intro (H5.out.1.below hb6) (H5.out.2.1.step hb6))
        clear hb6 hw6
        go_wp2_with fail
        refine (jRecords_any H6.out.1 HS.out).mono ?_
        rintro e w7 ⟨g7, rfl, hp7, hb7⟩
        have h8 := H6.out.2.step hb7
        obtain ⟨q6, c6, e6, hp8⟩ := h8.want.parts
        injection e6 with e6 e7 e8
        subst e6 e8
        clear e7
        rw [HK.out.2.1] at hp7 hp8 ⊢
        have H7 := Lib.hid (And.intro (H6.out.1.below hb7) (And.intro h8 (And.intro hp7 hp8)))
        clear hp7 hb7 h8 hp8
        go_wp2_with fail
        refine (sameR_any H7.out.2.2.1 H7.out.2.2.2 (by omega)).mono ?_
        rintro e w8 ⟨rfl, qn8, rfl⟩
        have hb8 : Below w7.heap.size w7 (w7.drewN qn8) := ⟨rfl, rfl, rfl, Nat.le_refl _, fun _ _ => rfl⟩
        obtain ⟨w8, hw8⟩ : ∃ w8, w7.drewN qn8 = w8 := ⟨_, rfl⟩
        rw [hw8] at hb8 ⊢
        have H8 := Lib.hid (And.intro (H7.out.1.below hb8) (H7.out.2.1.step hb8))
        clear hb8 hw8
        go_wp2_with fail
        refine (jRoom_any H8.out.1).mono ?_
        rintro e w9 ⟨rfl, rfl⟩
        go_wp2_with fail
        refine (jRoom_any H8.out.2.jr).mono ?_
        rintro e w9 ⟨rfl, rfl⟩
        go_wp2
        go_ret
        exact ⟨rfl, H8.out.2.below⟩
    · have q1' : ¬ (i : Int) < (pl : Int) := by omega
      · skip
        obtain ⟨v, L, u, top, A, hbk, htop, hu7, hLi⟩ := HB.out.1
        obtain ⟨q, cq, rfl, _⟩ := hbk.want.parts
        obtain ⟨N0, hN0⟩ : ∃ N0, L.length = N0 := ⟨_, rfl⟩
        rw [hN0] at hbk ⊢
        have HK := Lib.hid (And.intro hbk (And.intro hN0 (And.intro hLi HB.out.2)))
        have hN0' : N0 ≤ 10 := by omega
        clear hbk htop hu7 hLi HB hN0
        go_wp2_with fail
        refine (open_any (fr := 0) (m := 100) HK.out.1.dk HK.out.1.up (by omega)).mono ?_
        rintro e w4 ⟨k, v4, rfl, hj4, hjs4, hb4⟩
        obtain ⟨r1, r2, r3⟩ := HK.out.1.clean.reads
        rw [r1, r2] at hj4
        have H4 := Lib.hid (And.intro hj4 (HK.out.1.step hb4))
        clear hj4 hjs4 hb4 r1 r2 r3
        have hsh : Short L := ⟨by rw [HK.out.2.1]; omega, fun l hl => by have := HK.out.1.short l hl; omega⟩
        have HS := Lib.hid hsh
        clear hsh
        go_wp2_with fail
        refine (jRecords_any H4.out.2.jr HS.out).mono ?_
        rintro e w5 ⟨g5, rfl, hp5, hb5⟩
        have h6 := H4.out.2.step hb5
        obtain ⟨q6, c6, e6, hp6⟩ := h6.want.parts
        injection e6 with e6 e7 e8
        subst e6 e8
        clear e7
        rw [HK.out.2.1] at hp5 hp6 ⊢
        have H5 := Lib.hid (And.intro (H4.out.1.below hb5) (And.intro h6 (And.intro hp5 hp6)))
        clear hp5 hb5 h6 hp6
        go_wp2_with fail
        refine (sameR_any H5.out.2.2.1 H5.out.2.2.2 (by omega)).mono ?_
        rintro e w6 ⟨rfl, qn, rfl⟩
        have hb6 : Below w5.heap.size w5 (w5.drewN qn) := ⟨rfl, rfl, rfl, Nat.le_refl _, fun _ _ => rfl⟩
        obtain ⟨w6, hw6⟩ : ∃ w6, w5.drewN qn = w6 := ⟨_, rfl⟩
        rw [hw6] at hb6 ⊢
        have H6 := Lib.hid (And.intro (H5.out.1.below hb6) (H5.out.2.1.step hb6))
        clear hb6 hw6
        go_wp2_with fail
        refine (jRecords_any H6.out.1 HS.out).mono ?_
        rintro e w7 ⟨g7, rfl, hp7, hb7⟩
        have h8 := H6.out.2.step hb7
        obtain ⟨q6, c6, e6, hp8⟩ := h8.want.parts
        injection e6 with e6 e7 e8
        subst e6 e8
        clear e7
        rw [HK.out.2.1] at hp7 hp8 ⊢
        have H7 := Lib.hid (And.intro (H6.out.1.below hb7) (And.intro h8 (And.intro hp7 hp8)))
        clear hp7 hb7 h8 hp8
        go_wp2_with fail
        refine (sameR_any H7.out.2.2.1 H7.out.2.2.2 (by omega)).mono ?_
        rintro e w8 ⟨rfl, qn8, rfl⟩
        have hb8 : Below w7.heap.size w7 (w7.drewN qn8) := ⟨rfl, rfl, rfl, Nat.le_refl _, fun _ _ => rfl⟩
        obtain ⟨w8, hw8⟩ : ∃ w8, w7.drewN qn8 = w8 := ⟨_, rfl⟩
        rw [hw8] at hb8 ⊢
        have H8 := Lib.hid (And.intro (H7.out.1.below hb8) (H7.out.2.1.step hb8))
        clear hb8 hw8
        go_wp2_with fail
        refine (jRoom_any H8.out.1).mono ?_
        rintro e w9 ⟨rfl, rfl⟩
        go_wp2_with fail
        refine (jRoom_any H8.out.2.jr).mono ?_
        rintro e w9 ⟨rfl, rfl⟩
        go_wp2
        go_ret
        exact ⟨rfl, H8.out.2.below⟩
end Go.Proofs.Ytfecobkpdmjaeaa
