/-
  The walk of the statements' wanted.
-/
import Derived.Test.YtkmkccdihoaefaaGt
import Derived.Deep.DeepCutAuto
set_option linter.unusedSimpArgs false
namespace Go.Proofs.Ytkmkccdihoaefaa
open Go.RowKit
theorem take_gave (p : Prt) (l : List Int) (gave : Bool) (h : gave = true → l = []) : (takeOf p l gave).2.2 = true → (takeOf p l gave).2.1 = [] := by
  unfold takeOf
  split
  · cases hg : Cd.get p.least p.most l with
    | some o => obtain ⟨v, r⟩ := o; intro hh; simp only [] at hh ⊢; have := h hh; subst this; simp [Cd.get, Cd.parse] at hg
    | none => intro _; rfl
  · split
    · cases hg : txtOf (p.most.tmod 100000) l with
      | some o => obtain ⟨v, r⟩ := o; intro hh; simp only [] at hh ⊢; have := h hh; subst this; simp [txtOf, Cd.get, Cd.parse] at hg
      | none => intro _; rfl
    · split
      · split
        · rename_i hl; intro hh; have := h hh; subst this; simp at hl
        · intro _; rfl
      · exact h
theorem reads_gave (ps : List Prt) (l : List Int) : (reads ps l).2.2 = true → (reads ps l).2.1 = [] := by
  have key : ∀ (ps : List Prt) (s : List Prt × List Int × Bool), (s.2.2 = true → s.2.1 = []) → ((ps.foldl rstep s).2.2 = true → (ps.foldl rstep s).2.1 = []) := by
    intro ps
    induction ps with
    | nil => intro s h; exact h
    | cons p ps ih => intro s h; exact ih _ (take_gave p s.2.1 s.2.2 h)
  exact key ps ([], l, false) (fun h => by cases h)
/-- What is answered of a part once nothing is read any more. -/
def zeroOf (p : Prt) : Prt := ⟨p.k, 0, 0, 0, [], zero32⟩
theorem zero_ok {p : Prt} (h : p.Ok) : (zeroOf p).Ok := ok_mk h.k (in_small (by omega) (by omega)) (in_small (by omega) (by omega)) (in_small (by omega) (by omega)) zero_len byt_zero
theorem take_zero {p : Prt} (hv : Valid p) : takeOf p [] true = (some (zeroOf p), [], true) := by
  obtain ⟨h1, h2⟩ := hv
  obtain ⟨pk, pn, pl, pm, pb, ph⟩ := p
  simp only [] at h1 h2
  unfold takeOf zeroOf
  by_cases e1 : pk = 1
  · subst e1; rfl
  by_cases e2 : pk = 2
  · subst e2; rfl
  obtain rfl : pk = 3 := by omega
  rfl
theorem take_skip {p : Prt} (hv : ¬ Valid p) (l : List Int) (gave : Bool) : takeOf p l gave = (none, l, gave) := by
  unfold Valid at hv
  unfold takeOf
  rw [if_neg (by omega), if_neg (by omega), if_neg (by omega)]
/-- What holds at the head of each round of wanted. -/
def WantAt (w : World) (ps : List Prt) (l : List Int) (s0 s6 s7 s8 : Value) (wr : World) : Prop :=
  ∃ (k : Nat) (qs : List (Prt × Value)) (A : Option Addr) (n c : Nat) (bb : List Int), k ≤ ps.length ∧ qs.length ≤ k ∧ s8 = .int .i64 k ∧ s0 = .slice A n c ∧ s7 = .bool (reads (ps.take k) l).2.2 ∧ n ≤ 1000 ∧
    Out wr w.heap.size (· < w.heap.size) s6 qs ∧ qs.map (·.1) = (reads (ps.take k) l).1 ∧ Txt wr (· < w.heap.size) A n c bb ∧ ((reads (ps.take k) l).2.2 = false → bb = (reads (ps.take k) l).2.1) ∧ Below w.heap.size w wr
theorem want_lost {w w5 : World} {ps : List Prt} {l bb : List Int} {k : Nat} {qs : List (Prt × Value)} {p : Prt} {A : Option Addr} {m d : Nat} {v' : Value} (hk : k < ps.length) (hqk : qs.length ≤ k) (hm : m ≤ 1000)
    (hsn : reads (ps.take (k + 1)) l = rstep (reads (ps.take k) l) p) (ht : takeOf p (reads (ps.take k) l).2.1 (reads (ps.take k) l).2.2 = (some (zeroOf p), [], true))
    (hout : Out w5 w.heap.size (· < w.heap.size) v' (qs ++ [(zeroOf p, .slice none 0 0)])) (hmap : qs.map (·.1) = (reads (ps.take k) l).1) (htx : Txt w5 (· < w.heap.size) A m d bb) (hb : Below w.heap.size w w5) :
    WantAt w ps l (.slice A m d) v' (.bool true) (.int .i64 ((k : Int) + 1)) w5 := by
  have e : reads (ps.take (k + 1)) l = ((reads (ps.take k) l).1 ++ [zeroOf p], [], true) := by rw [hsn]; unfold rstep; rw [ht]; rfl
  exact ⟨k + 1, _, A, m, d, bb, hk, by simp; omega, by go_num, rfl, by rw [e], hm, hout, by rw [e, List.map_append, hmap]; rfl, htx, (fun h => by rw [e] at h; cases h), hb⟩
theorem want_got {w w5 : World} {ps : List Prt} {l b2 : List Int} {k : Nat} {qs : List (Prt × Value)} {p q : Prt} {X : Value} {A : Option Addr} {m d : Nat} {v' : Value} (hk : k < ps.length) (hqk : qs.length ≤ k) (hm : m ≤ 1000)
    (hsn : reads (ps.take (k + 1)) l = rstep (reads (ps.take k) l) p) (ht : takeOf p (reads (ps.take k) l).2.1 (reads (ps.take k) l).2.2 = (some q, b2, false))
    (hout : Out w5 w.heap.size (· < w.heap.size) v' (qs ++ [(q, X)])) (hmap : qs.map (·.1) = (reads (ps.take k) l).1) (htx : Txt w5 (· < w.heap.size) A m d b2) (hb : Below w.heap.size w w5) :
    WantAt w ps l (.slice A m d) v' (.bool false) (.int .i64 ((k : Int) + 1)) w5 := by
  have e : reads (ps.take (k + 1)) l = ((reads (ps.take k) l).1 ++ [q], b2, false) := by rw [hsn]; unfold rstep; rw [ht]; rfl
  exact ⟨k + 1, _, A, m, d, b2, hk, by simp; omega, by go_num, rfl, by rw [e], hm, hout, by rw [e, List.map_append, hmap]; rfl, htx, (fun _ => by rw [e]), hb⟩
theorem want_skip {w w5 : World} {ps : List Prt} {l bb : List Int} {k : Nat} {qs : List (Prt × Value)} {p : Prt} {A : Option Addr} {m d : Nat} {v' : Value} {gave : Bool} (hk : k < ps.length) (hqk : qs.length ≤ k) (hm : m ≤ 1000)
    (hsn : reads (ps.take (k + 1)) l = rstep (reads (ps.take k) l) p) (hv : ¬ Valid p) (hg : (reads (ps.take k) l).2.2 = gave)
    (hout : Out w5 w.heap.size (· < w.heap.size) v' qs) (hmap : qs.map (·.1) = (reads (ps.take k) l).1) (htx : Txt w5 (· < w.heap.size) A m d bb) (hbb : (reads (ps.take k) l).2.2 = false → bb = (reads (ps.take k) l).2.1) (hb : Below w.heap.size w w5) :
    WantAt w ps l (.slice A m d) v' (.bool gave) (.int .i64 ((k : Int) + 1)) w5 := by
  have e : reads (ps.take (k + 1)) l = reads (ps.take k) l := by rw [hsn]; unfold rstep; rw [take_skip hv]; simp
  exact ⟨k + 1, qs, A, m, d, bb, hk, by omega, by go_num, rfl, by rw [e, hg], hm, hout, by rw [e]; exact hmap, htx, by rw [e]; exact hbb, hb⟩
theorem out_app {w5 w6 : World} {B : Nat} {v v' : Value} {qs : List (Prt × Value)} {q : Prt} {a : Option Addr} {n c : Nat} {o : Obj} (h : Out w5 B (· < B) v qs) (hok : q.Ok) (ht : Txt w5 (· < B) a n c q.b)
    (hown : w6.ownsRow B 28 37 v' (qs.length + 1) (flat qs ++ cellsOf q (.slice a n c))) (hg : (w5.alloc o).grownBy w6 v.ownBlock) (hv : v'.ownBlock = v.ownBlock ∨ v'.ownBlock = some (w5.alloc o).heap.size) :
    Out w6 B (· < B) v' (qs ++ [(q, .slice a n c)]) := by
  have h5 : Out (w5.alloc o) B (· < B) v qs := h.keep (fun b hlt _ => Below.heap_alloc w5 o b hlt) (by simp)
  refine out_append h5 hok ((ht.below (below_alloc w5 o) (fun _ hlt _ => hlt)).weak (fun b _ hb => ⟨hb, fun e => by have := own_ge h5.1 b e; omega⟩)) hown hg ?_
  rcases hv with hv | hv
  · exact Or.inl hv
  · exact Or.inr ⟨_, Nat.le_refl _, hv⟩
theorem slice_lo {a : Option Addr} {n c k : Nat} (h1 : k ≤ n) (w : World) : (Instr.slice 25 (.slice a n c) (some (.int .i64 (k : Int))) none none).run Try.prog w = .ok (.slice (if c = k then a else a.map (·.add k)) (n - k) (c - k)) w := by
  have hb : (0 : Int) ≤ (k : Int) ∧ (k : Int) ≤ (n : Int) := by omega
  simp only [Instr.slice, Instr.sliceBounds, Instr.sliceBound, Sem.run_bind, Sem.run_pure, Result.andThen_ok, run_underlying Try.underlying25, asIntOf, if_pos hb, sz_u8' w, Int.toNat_natCast, Nat.mul_one]
theorem getN_zero {l : List Int} {v : Int} {k : Nat} (h : Cd.getN l = (v, k)) (hb : Cd.Byt l) (h0 : k = 0) (x y : Int) : Cd.get x y l = none := by
  unfold Cd.getN at h
  unfold Cd.get
  cases hp : Cd.parse l with
  | none => rfl
  | some o =>
    exfalso
    obtain ⟨u, r⟩ := o
    rw [hp] at h
    simp only [Prod.mk.injEq] at h
    obtain ⟨_, _, e⟩ := Cd.parse_enc hp hb
    have := Cd.encU_pos u.toNat
    have h2 := congrArg List.length e
    rw [List.length_append] at h2
    omega
theorem getN_pos {l : List Int} {v : Int} {k : Nat} (h : Cd.getN l = (v, k)) (hb : Cd.Byt l) (h0 : k ≠ 0) (x y : Int) : Cd.get x y l = if x ≤ v ∧ v ≤ y then some (v, l.drop k) else none := by
  unfold Cd.getN at h
  unfold Cd.get
  cases hp : Cd.parse l with
  | none =>
    rw [hp] at h
    simp only [Prod.mk.injEq] at h
    omega
  | some o =>
    obtain ⟨u, r⟩ := o
    rw [hp] at h
    simp only [Prod.mk.injEq] at h
    obtain ⟨_, _, e⟩ := Cd.parse_enc hp hb
    have h2 := congrArg List.length e
    rw [List.length_append] at h2
    have hr : l.drop k = r := by
      rw [e, List.drop_append_of_le_length (by omega), List.drop_of_length_le (by omega), List.nil_append]
    simp only []
    rw [h.1, hr]
theorem getN_le {l : List Int} {v : Int} {k : Nat} (h : Cd.getN l = (v, k)) : k ≤ l.length := by
  unfold Cd.getN at h
  cases hp : Cd.parse l with
  | none => rw [hp] at h; simp only [Prod.mk.injEq] at h; omega
  | some o => obtain ⟨u, r⟩ := o; rw [hp] at h; simp only [Prod.mk.injEq] at h; omega
theorem getN_in {l : List Int} {v : Int} {k : Nat} (h : Cd.getN l = (v, k)) (hb : Cd.Byt l) : inI64 v := by
  unfold Cd.getN at h
  cases hp : Cd.parse l with
  | none => rw [hp] at h; simp only [Prod.mk.injEq] at h; exact ⟨by omega, by omega⟩
  | some o =>
    obtain ⟨u, r⟩ := o
    rw [hp] at h
    simp only [Prod.mk.injEq] at h
    obtain ⟨h0, h1, _⟩ := Cd.parse_enc hp hb
    rw [← h.1]
    exact Cd.unfold_range (by omega)
theorem byt_getD' {l : List Int} (h : Cd.Byt l) (k : Nat) : 0 ≤ l.getD k 0 ∧ l.getD k 0 < 256 := by
  by_cases hl : k < l.length
  · have : l.getD k 0 = l[k] := by simp [hl]
    rw [this]
    exact h _ (List.getElem_mem hl)
  · have : l.getD k 0 = 0 := by simp [Nat.le_of_not_lt hl]
    rw [this]; omega
theorem hash_get {k : Int} (h : List Int) (j : Nat) (hj : j < h.length) : (pcells k 0 0 0 nilv h).toArray[5 + j]? = some (.int .u8 (h.getD j 0)) := by
  rw [List.getElem?_toArray]
  unfold pcells
  rw [show 5 + j = j + 5 by omega]
  simp only [List.getElem?_cons_succ]
  exact nums_get h j hj
theorem hash_set {k : Int} {bb : List Int} (j : Nat) (hj : j < 32) (hl : 32 ≤ bb.length) : (pcells k 0 0 0 nilv (bb.take j ++ List.replicate (32 - j) 0)).toArray.setIfInBounds (5 + j) (.int .u8 (bb.getD j 0)) = (pcells k 0 0 0 nilv (bb.take (j + 1) ++ List.replicate (32 - (j + 1)) 0)).toArray := by
  have e : List.replicate (32 - j) (0 : Int) = 0 :: List.replicate (32 - (j + 1)) 0 := by
    rw [show 32 - j = (32 - (j + 1)) + 1 by omega, List.replicate_succ]
  have hlt : j < bb.length := by omega
  have e2 : bb.take (j + 1) = bb.take j ++ [bb.getD j 0] := by
    rw [List.take_succ_eq_append_getElem hlt]; simp [hlt]
  have e3 : (nums (bb.take j)).length = j := by rw [nums_len, List.length_take]; omega
  rw [e, e2, List.setIfInBounds_toArray]
  congr 1
  unfold pcells
  rw [show 5 + j = j + 5 by omega]
  simp only [List.set_cons_succ, nums_append]
  rw [List.set_append_right _ _ (by omega), e3, Nat.sub_self]
  simp [nums]
section
variable {p : Prt} {l r t : List Int} {gave : Bool} {v : Int}
theorem take1_none (h : p.k = 1) (hg : Cd.get p.least p.most l = none) : takeOf p l gave = (some (zeroOf p), [], true) := by
  unfold takeOf; rw [if_pos h, hg]; unfold zeroOf mkN; rw [h]
theorem take1_some (h : p.k = 1) (hg : Cd.get p.least p.most l = some (v, r)) : takeOf p l gave = (some (mkN v), r, gave) := by
  unfold takeOf; rw [if_pos h, hg]
theorem take2_none (h : p.k = 2) (hg : txtOf (p.most.tmod 100000) l = none) : takeOf p l gave = (some (zeroOf p), [], true) := by
  unfold takeOf; rw [if_neg (by omega), if_pos h, hg]; unfold zeroOf mkB; rw [h]
theorem take2_some (h : p.k = 2) (hg : txtOf (p.most.tmod 100000) l = some (t, r)) : takeOf p l gave = (some (mkB t), r, gave) := by
  unfold takeOf; rw [if_neg (by omega), if_pos h, hg]
theorem take3_none (h : p.k = 3) (hl : ¬ 32 ≤ l.length) : takeOf p l gave = (some (zeroOf p), [], true) := by
  unfold takeOf; rw [if_neg (by omega), if_neg (by omega), if_pos h, if_neg hl]; unfold zeroOf mkH; rw [h]
theorem take3_some (h : p.k = 3) (hl : 32 ≤ l.length) : takeOf p l gave = (some (mkH (l.take 32)), l.drop 32, gave) := by
  unfold takeOf; rw [if_neg (by omega), if_neg (by omega), if_pos h, if_pos hl]
end
def WantAll (w : World) (s : List Prt × List Int × Bool) (e : Ending) (w' : World) : Prop :=
  ∃ qs v, e = .returned (.tuple #[v, .bool (decide (doneOf s.2.1 s.2.2 = 0))]) ∧ Out w' w.heap.size (· < w.heap.size) v qs ∧ qs.map (·.1) = s.1 ∧ Below w.heap.size w w'
set_option maxHeartbeats 4000000 in
set_option maxRecDepth 100000 in
theorem wanted_any {S S' : Nat → Prop} {a a' : Option Addr} {n c n' c' : Nat} {l : List Int} {ps : List Prt} {w : World} (h : Txt w S a n c l) (hp : Prts w S' a' n' ps) (hn : n ≤ 1000) (hn' : n' ≤ 20) :
    Calls Try.prog 17 #[.slice a n c, .slice a' n' c'] w (WantAll w (reads ps l)) := by
  obtain ⟨i0, hi0, hz0, hz1, hz2⟩ := info_parts part_info
  have HI := Lib.hid (And.intro hi0 (And.intro hz0 (And.intro hz1 hz2)))
  clear hi0 hz0 hz1 hz2
  have H := Lib.hid h.old
  have HP := Lib.hid hp.old
  clear h hp
  have HS : Hid (WantAt w ps l (.slice a n c) (.slice none 0 0) (.bool false) (.int .i64 0) w) := Lib.hid ⟨0, [], a, n, c, l, Nat.zero_le _, Nat.le_refl _, rfl, rfl, rfl, hn, Out.nil _ _ _, rfl, H.out, fun _ => rfl, Below.refl _ _⟩
  go_enter Try.func17, Try.ntmps17
  go_wp2
  go_loopw [0, 6, 7, 8] (fun s0 s6 s7 s8 wr => WantAt w ps l s0 s6 s7 s8 wr) (fun _ _ _ i _ => n' - (intOf i).toNat)
  case atStart => exact HS.out
  case round =>
    clear HS
    obtain ⟨k, qs, A, m, d, bb, hk, hqk, rfl, rfl, rfl, hm, hout, hmap, htx, hbb, hbl⟩ := hrel
    have HLEN := Lib.hid HP.out.1
    have hk' : k ≤ n' := by have := HLEN.out; omega
    have HOUT := Lib.hid hout
    have HMAP := Lib.hid hmap
    have HTX := Lib.hid htx
    have HBB := Lib.hid hbb
    have HBL := Lib.hid hbl
    have hz := hbl.size
    obtain ⟨gave, hgave⟩ : ∃ g, (reads (ps.take k) l).2.2 = g := ⟨_, rfl⟩
    rw [hgave]
    have HG := Lib.hid hgave
    clear hout hmap hbl hk htx hbb hgave
    by_cases c : k < n'
    · obtain ⟨b, off, p, rfl, hlt, _, hpk, hmem, hok, hat⟩ := HP.out.at_ c
      have hat' := hat.keep (HBL.out.block b hlt) hz (fun b _ h => HBL.out.block b h)
      have HSN := Lib.hid (reads_snoc l hpk)
      have HAT := Lib.hid hat'
      have HOK := Lib.hid hok
      have c0 := hat'.hk
      clear hat hat' hok hmem hpk
      generalize hpk : p.k = pk at *
      have HPK := Lib.hid hpk
      clear hpk
      have hd : decide (k < n') = true := by simp; omega
      go_upto_region 8 with (first
        | ((with_reducible show wpList _ _ _ ((⟨_, Op.build 28 _, _, _, _, _⟩ : Oper) :: _) _ _); refine wpList_part rfl _ rfl [(0, .int .i64 _)] rfl _ (built_k _) ?_)
        | ((with_reducible show wpList _ _ _ ((⟨_, Op.store 28 _ _, _, _, _, _⟩ : Oper) :: _) _ _); rw [zeroP_lit]; refine wpList_store_row rfl _ (.tmp 9) (.tmp 27) rfl wr.heap.size (pcells pk 0 0 0 nilv zero32).toArray rfl rfl 28 _ (Whole.new wr _ _) (by rw [psize zero_len]; exact info37) (by rw [psize zero_len, psize zero_len]) (pcells_one rfl) ?_; rw [World.setRow_alloc_new]))
      have HW1 : Hid (Whole (wr.alloc (.cells (pcells pk 0 0 0 nilv zero32).toArray 28)) wr.heap.size 28 (pcells pk 0 0 0 nilv zero32).toArray) := Lib.hid (Whole.new _ _ _)
      have HB1 : Hid (Below wr.heap.size wr (wr.alloc (.cells (pcells pk 0 0 0 nilv zero32).toArray 28))) := Lib.hid (below_alloc _ _)
      have hP1 : wr.heap.size < (wr.alloc (.cells (pcells pk 0 0 0 nilv zero32).toArray 28)).heap.size := by simp
      have HTX1 : Hid (Txt (wr.alloc (.cells (pcells pk 0 0 0 nilv zero32).toArray 28)) (· < w.heap.size) A m d bb) := Lib.hid (HTX.out.below (below_alloc _ _) (fun b h _ => h))
      have c1 : (wr.alloc (.cells (pcells pk 0 0 0 nilv zero32).toArray 28)).cell? ⟨b, off + k * 37, none⟩ = some (.int .i64 pk) := by
        have := (HAT.out.keep (w' := wr.alloc (.cells (pcells pk 0 0 0 nilv zero32).toArray 28)) (HB1.out.block b (Nat.lt_of_lt_of_le hlt hz)) HB1.out.size (fun b hb _ => HB1.out.block b hb)).hk
        rwa [HPK.out] at this
      clear c0
      generalize wr.alloc (.cells (pcells pk 0 0 0 nilv zero32).toArray 28) = w1 at *
      by_cases h1 : pk = 1
      · have e1 : (pk == 1) = true := by simp [h1]
        have HH1 := Lib.hid h1
        have HV : Hid (Valid p) := Lib.hid (by unfold Valid; rw [HPK.out, h1]; omega)
        clear h1
        go_wp2_with fail
        refine (get_ref HTX1.out (by omega)).mono ?_
        rintro e w2 ⟨he, hb2⟩
        obtain ⟨nv, kk, hgn⟩ : ∃ nv kk, Cd.getN bb = (nv, kk) := ⟨_, _, rfl⟩
        rw [hgn] at he
        subst he
        have hgz := getN_zero hgn HTX1.out.2.2.1
        have hgp := getN_pos hgn HTX1.out.2.2.1
        have hkm : kk ≤ m := by have := getN_le hgn; rw [HTX1.out.1] at this; exact this
        have hnv := getN_in hgn HTX1.out.2.2.1
        have HGZ := Lib.hid hgz
        have HGP := Lib.hid hgp
        have HNV : Hid (inI64 nv) := Lib.hid hnv
        have hw2 := HW1.out.below hb2 hP1
        have hb02 : Below wr.heap.size wr w2 := HB1.out.trans (hb2.mono HB1.out.size)
        clear hgz hgp hgn hnv
        have g0 : w2.cell? ⟨wr.heap.size, 1, none⟩ = some (.int .i64 0) := hw2.cell 1
        have f0 : w2.frozen? ⟨wr.heap.size, 1, none⟩ = false := hw2.frozen 1
        have h3 : Whole (w2.setCell ⟨wr.heap.size, 1, none⟩ (.int .i64 nv)) wr.heap.size 28 (cellsOf (mkN nv) nilv).toArray := by
          have h2 := hw2.set 1 (.int .i64 nv)
          rw [List.setIfInBounds_toArray, HH1.out] at h2
          exact h2
        have hb3 := hb02.setCell (p := ⟨wr.heap.size, 1, none⟩) (Nat.le_refl _) (.int .i64 nv)
        have hat3 := HAT.out.keep (w' := w2.setCell ⟨wr.heap.size, 1, none⟩ (.int .i64 nv)) (hb3.block b (Nat.lt_of_lt_of_le hlt hz)) hb3.size (fun b hb _ => hb3.block b hb)
        have cl := hat3.hl
        have cm := hat3.hm
        have HQ := Lib.hid (And.intro h3 hb3)
        clear hat3 h3 hb3 hw2 hb02 hb2
        obtain ⟨pl, hpl⟩ : ∃ pl, p.least = pl := ⟨_, rfl⟩
        obtain ⟨pm, hpm⟩ : ∃ pm, p.most = pm := ⟨_, rfl⟩
        rw [hpl] at cl
        rw [hpm] at cm
        have HPL := Lib.hid hpl
        have HPM := Lib.hid hpm
        clear hpl hpm
        by_cases hin : pl ≤ nv ∧ nv ≤ pm
        · obtain ⟨hi1, hi2⟩ := hin
          have d1 : decide (nv < pl) = false := by simp; omega
          have d2 : decide (pm < nv) = false := by simp; omega
          go_upto_region 25 with (fail)
          have HLG : Hid ((kk = 0 → (gave = false → takeOf p bb false = (some (zeroOf p), [], true))) ∧ (kk ≠ 0 → takeOf p bb false = (some (mkN nv), bb.drop kk, false))) := Lib.hid ⟨fun h _ => take1_none (by rw [HPK.out, HH1.out]) (HGZ.out h _ _), fun h => take1_some (by rw [HPK.out, HH1.out]) (by rw [HGP.out h, HPL.out, HPM.out, if_pos ⟨hi1, hi2⟩])⟩
          clear g0 f0 cl cm d1 d2
          have HB6 : Hid (Below wr.heap.size wr (w2.setCell ⟨wr.heap.size, 1, none⟩ (.int .i64 nv))) := Lib.hid HQ.out.2
          have HQ6 : Hid (Whole (w2.setCell ⟨wr.heap.size, 1, none⟩ (.int .i64 nv)) wr.heap.size 28 (cellsOf (mkN nv) nilv).toArray ∧ (mkN nv).Ok ∧ Txt (w2.setCell ⟨wr.heap.size, 1, none⟩ (.int .i64 nv)) (· < w.heap.size) none 0 0 (mkN nv).b) := Lib.hid ⟨HQ.out.1, mkN_ok HNV.out, Txt.nil _ _ _ _⟩
          clear HQ
          generalize w2.setCell ⟨wr.heap.size, 1, none⟩ (.int .i64 nv) = w6 at *
          have HOUT6 := Lib.hid (HOUT.out.keep (fun b hlt _ => HB6.out.block b hlt) HB6.out.size)
          have HTX6 : Hid (Txt w6 (· < w.heap.size) A m d bb) := Lib.hid (HTX.out.below HB6.out (fun b h _ => h))
          have HBL6 : Hid (Below w.heap.size w w6) := Lib.hid (HBL.out.trans (HB6.out.mono hz))
          have z6 : w.heap.size ≤ w6.heap.size := HBL6.out.size
          have c6 : w6.cell? ⟨b, off + k * 37, none⟩ = some (.int .i64 pk) := by
            have := (HAT.out.keep (w' := w6) (HB6.out.block b (Nat.lt_of_lt_of_le hlt hz)) HB6.out.size (fun b hb _ => HB6.out.block b hb)).hk
            rwa [HPK.out] at this
          clear HB6
          by_cases hk0 : kk = 0
          · have ek : ((kk : Int) == 0) = true := by rw [beq_iff_eq]; omega
            have HLOST := Lib.hid (HLG.out.1 hk0)
            clear hk0
            have HT0 : Hid (takeOf p (reads (ps.take k) l).2.1 (reads (ps.take k) l).2.2 = (some (zeroOf p), [], true)) := Lib.hid (by
              cases hgv : (reads (ps.take k) l).2.2 with
              | true => rw [reads_gave _ _ hgv]; exact take_zero HV.out
              | false => rw [← HBB.out hgv]; exact HLOST.out (by rw [← HG.out, hgv]))
            have HZC : Hid (cellsOf (zeroOf p) nilv = pcells pk 0 0 0 nilv zero32) := Lib.hid (by unfold cellsOf zeroOf; rw [HPK.out])
            have hps := psize (k := pk) (n := 0) (l := 0) (m := 0) (x := nilv) zero_len
            have HPS := Lib.hid hps
            clear hps
            go_wp2_with (first
              | ((with_reducible show wpList _ _ _ ((⟨_, Op.build 28 _, _, _, _, _⟩ : Oper) :: _) _ _); refine wpList_part rfl _ rfl [(0, .int .i64 _)] rfl _ (built_k _) ?_)
              | ((with_reducible show wpList _ _ _ ((⟨_, Op.buildSlice 23 _ _, _, _, _, _⟩ : Oper) :: _) _ _); refine wpList_build1 rfl 102 rfl (pcells pk 0 0 0 nilv zero32).toArray HPS.out rfl ?_)
              | (at_builtin; refine wpList_append_at _ rfl (.tmp 96) (.tmp 103) 23 rfl w.heap.size 28 i0 _ 37 88 Try.underlying23 HI.out.1 HI.out.2.1 HI.out.2.2.1 HI.out.2.2.2 (psize zero_len) (by omega) u6 qs.length (flat qs) rfl ?l11 ⟨w6.heap.size, 0, none⟩ 1 1 (cellsOf (zeroOf p) nilv) rfl ?l12 ?l13 (cells_one rfl) ?l14 ?l15 ?l16 ?_))
            case l11 => exact HOUT6.out.1.alloc _
            case l12 => rw [cellsOf_len (zero_ok HOK.out)]
            case l13 =>
              intro j u hu
              have hn := Whole.new w6 28 (pcells pk 0 0 0 nilv zero32).toArray
              try rw [Addr.add_lit, Nat.zero_add, hn.cell]
              rw [← HZC.out]
              simpa using hu
            case l14 => unfold maxLen; omega
            case l15 => omega
            case l16 => first | omega | (simp; omega)
            intro v' w7 hown hgr hat
            have HN : Hid (WantAt w ps l (.slice A m d) v' (.bool true) (.int .i64 ((k : Int) + 1)) w7) := Lib.hid (want_lost (by rw [HLEN.out]; exact c) hqk hm HSN.out HT0.out (out_app HOUT6.out (zero_ok HOK.out) (Txt.nil _ _ none 0) hown hgr (by simpa using hat)) HMAP.out
              (((HTX6.out.below (below_alloc w6 _) (fun _ h _ => h))).grown hgr (fun b _ hb e => by have h1 := own_ge HOUT6.out.1 b e.symm; have : b < w.heap.size := hb; omega)) ((HBL6.out.alloc z6 _).grown hgr (by simp; omega) (own_ge HOUT6.out.1)))
            clear hown hgr hat
            go_wp2
            exact ⟨HN.out, by simp [intOf]; omega⟩
          · have ek : ((kk : Int) == 0) = false := by rw [beq_eq_false_iff_ne]; omega
            have HKK := Lib.hid hk0
            cases gave with
            | true =>
              have HLOST : Hid (true = false → takeOf p bb false = (some (zeroOf p), [], true)) := Lib.hid (fun h => by cases h)
              clear hk0
              have HT0 : Hid (takeOf p (reads (ps.take k) l).2.1 (reads (ps.take k) l).2.2 = (some (zeroOf p), [], true)) := Lib.hid (by
                cases hgv : (reads (ps.take k) l).2.2 with
                | true => rw [reads_gave _ _ hgv]; exact take_zero HV.out
                | false => rw [← HBB.out hgv]; exact HLOST.out (by rw [← HG.out, hgv]))
              have HZC : Hid (cellsOf (zeroOf p) nilv = pcells pk 0 0 0 nilv zero32) := Lib.hid (by unfold cellsOf zeroOf; rw [HPK.out])
              have hps := psize (k := pk) (n := 0) (l := 0) (m := 0) (x := nilv) zero_len
              have HPS := Lib.hid hps
              clear hps
              go_wp2_with (first
                | ((with_reducible show wpList _ _ _ ((⟨_, Op.build 28 _, _, _, _, _⟩ : Oper) :: _) _ _); refine wpList_part rfl _ rfl [(0, .int .i64 _)] rfl _ (built_k _) ?_)
                | ((with_reducible show wpList _ _ _ ((⟨_, Op.buildSlice 23 _ _, _, _, _, _⟩ : Oper) :: _) _ _); refine wpList_build1 rfl 102 rfl (pcells pk 0 0 0 nilv zero32).toArray HPS.out rfl ?_)
                | (at_builtin; refine wpList_append_at _ rfl (.tmp 96) (.tmp 103) 23 rfl w.heap.size 28 i0 _ 37 88 Try.underlying23 HI.out.1 HI.out.2.1 HI.out.2.2.1 HI.out.2.2.2 (psize zero_len) (by omega) u6 qs.length (flat qs) rfl ?l21 ⟨w6.heap.size, 0, none⟩ 1 1 (cellsOf (zeroOf p) nilv) rfl ?l22 ?l23 (cells_one rfl) ?l24 ?l25 ?l26 ?_))
              case l21 => exact HOUT6.out.1.alloc _
              case l22 => rw [cellsOf_len (zero_ok HOK.out)]
              case l23 =>
                intro j u hu
                have hn := Whole.new w6 28 (pcells pk 0 0 0 nilv zero32).toArray
                try rw [Addr.add_lit, Nat.zero_add, hn.cell]
                rw [← HZC.out]
                simpa using hu
              case l24 => unfold maxLen; omega
              case l25 => omega
              case l26 => first | omega | (simp; omega)
              intro v' w7 hown hgr hat
              have HN : Hid (WantAt w ps l (.slice A m d) v' (.bool true) (.int .i64 ((k : Int) + 1)) w7) := Lib.hid (want_lost (by rw [HLEN.out]; exact c) hqk hm HSN.out HT0.out (out_app HOUT6.out (zero_ok HOK.out) (Txt.nil _ _ none 0) hown hgr (by simpa using hat)) HMAP.out
                (((HTX6.out.below (below_alloc w6 _) (fun _ h _ => h))).grown hgr (fun b _ hb e => by have h1 := own_ge HOUT6.out.1 b e.symm; have : b < w.heap.size := hb; omega)) ((HBL6.out.alloc z6 _).grown hgr (by simp; omega) (own_ge HOUT6.out.1)))
              clear hown hgr hat
              go_wp2
              exact ⟨HN.out, by simp [intOf]; omega⟩
            | false =>
              have HGOT := Lib.hid (HLG.out.2 hk0)
              clear hk0
              have HTG : Hid (takeOf p (reads (ps.take k) l).2.1 (reads (ps.take k) l).2.2 = (some (mkN nv), bb.drop kk, false)) := Lib.hid (by
                rw [HG.out, ← HBB.out HG.out]; exact HGOT.out)
              generalize hC : (cellsOf (mkN nv) nilv).toArray = CW at *
              have HCW := Lib.hid hC
              have hCWs : CW.size = 37 := by rw [← hC, List.size_toArray, cellsOf_len HQ6.out.2.1]
              clear hC
              have hkd : kk ≤ d := by have := HTX6.out.2.1; omega
              obtain ⟨A2, hsl, HTS⟩ : ∃ A2, (∀ w, (Instr.slice 25 (.slice A m d) (some (.int .i64 (kk : Int))) none none).run Try.prog w = .ok (.slice A2 (m - kk) (d - kk)) w) ∧ Hid (∀ w7, Txt w7 (· < w.heap.size) A m d bb → Txt w7 (· < w.heap.size) A2 (m - kk) (d - kk) (bb.drop kk)) := ⟨_, slice_lo (by omega), Lib.hid (fun w7 h => h.drop kk (by omega))⟩
              go_wp2_with (first
                | ((with_reducible show wpList _ _ _ ((⟨_, Op.load 28 _, _, _, _, _⟩ : Oper) :: _) _ _); refine wpList_load_row rfl _ (.tmp 9) rfl wr.heap.size rfl 28 CW (0, 0) _ HQ6.out.1 Try.underlying28 rfl (by rw [hCWs]; exact info37) ?_)
                | ((with_reducible show wpList _ _ _ ((⟨_, Op.buildSlice 23 _ _, _, _, _, _⟩ : Oper) :: _) _ _); refine wpList_build1 rfl 106 rfl CW hCWs rfl ?_)
                | (at_builtin; refine wpList_append_at _ rfl (.tmp 105) (.tmp 107) 23 rfl w.heap.size 28 i0 _ 37 88 Try.underlying23 HI.out.1 HI.out.2.1 HI.out.2.2.1 HI.out.2.2.2 (psize zero_len) (by omega) u6 qs.length (flat qs) rfl ?g31 ⟨w6.heap.size, 0, none⟩ 1 1 (cellsOf (mkN nv) nilv) rfl ?g32 ?g33 (cells_one rfl) ?g34 ?g35 ?g36 ?_))
              case g31 => exact HOUT6.out.1.alloc _
              case g32 => rw [cellsOf_len HQ6.out.2.1]
              case g33 =>
                intro j u hu
                have hn := Whole.new w6 28 CW
                try rw [Addr.add_lit, Nat.zero_add, hn.cell]
                rw [← HCW.out]
                simpa using hu
              case g34 => unfold maxLen; omega
              case g35 => omega
              case g36 => first | omega | (simp; omega)
              intro v' w7 hown hgr hat
              have HN : Hid (WantAt w ps l (.slice A2 (m - kk) (d - kk)) v' (.bool false) (.int .i64 ((k : Int) + 1)) w7) := Lib.hid (want_got (by rw [HLEN.out]; exact c) hqk (by omega) HSN.out HTG.out (out_app HOUT6.out HQ6.out.2.1 HQ6.out.2.2 hown hgr (by simpa using hat)) HMAP.out
                (HTS.out w7 (((HTX6.out.below (below_alloc w6 _) (fun _ h _ => h))).grown hgr (fun b _ hb e => by have h1 := own_ge HOUT6.out.1 b e.symm; have : b < w.heap.size := hb; omega))) ((HBL6.out.alloc z6 _).grown hgr (by simp; omega) (own_ge HOUT6.out.1)))
              clear hown hgr hat
              go_wp2
              exact ⟨HN.out, by simp [intOf]; omega⟩
        · have HLOST : Hid (gave = false → takeOf p bb false = (some (zeroOf p), [], true)) := Lib.hid (fun _ => take1_none (by rw [HPK.out, HH1.out]) (by
            by_cases hk0 : kk = 0
            · exact HGZ.out hk0 _ _
            · rw [HGP.out hk0, HPL.out, HPM.out, if_neg hin]))
          have HB6 : Hid (Below wr.heap.size wr (w2.setCell ⟨wr.heap.size, 1, none⟩ (.int .i64 nv))) := Lib.hid HQ.out.2
          have hor : nv < pl ∨ (¬ nv < pl ∧ pm < nv) := by omega
          clear hin
          rcases hor with hor | ⟨hor1, hor⟩
          · have d1 : decide (nv < pl) = true := by simp; omega
            go_upto_region 25 with (fail)
            clear g0 f0 cl cm d1 HQ
            generalize w2.setCell ⟨wr.heap.size, 1, none⟩ (.int .i64 nv) = w6 at *
            have HOUT6 := Lib.hid (HOUT.out.keep (fun b hlt _ => HB6.out.block b hlt) HB6.out.size)
            have HTX6 : Hid (Txt w6 (· < w.heap.size) A m d bb) := Lib.hid (HTX.out.below HB6.out (fun b h _ => h))
            have HBL6 : Hid (Below w.heap.size w w6) := Lib.hid (HBL.out.trans (HB6.out.mono hz))
            have z6 : w.heap.size ≤ w6.heap.size := HBL6.out.size
            have c6 : w6.cell? ⟨b, off + k * 37, none⟩ = some (.int .i64 pk) := by
              have := (HAT.out.keep (w' := w6) (HB6.out.block b (Nat.lt_of_lt_of_le hlt hz)) HB6.out.size (fun b hb _ => HB6.out.block b hb)).hk
              rwa [HPK.out] at this
            clear HB6
            have HT0 : Hid (takeOf p (reads (ps.take k) l).2.1 (reads (ps.take k) l).2.2 = (some (zeroOf p), [], true)) := Lib.hid (by
              cases hgv : (reads (ps.take k) l).2.2 with
              | true => rw [reads_gave _ _ hgv]; exact take_zero HV.out
              | false => rw [← HBB.out hgv]; exact HLOST.out (by rw [← HG.out, hgv]))
            have HZC : Hid (cellsOf (zeroOf p) nilv = pcells pk 0 0 0 nilv zero32) := Lib.hid (by unfold cellsOf zeroOf; rw [HPK.out])
            have hps := psize (k := pk) (n := 0) (l := 0) (m := 0) (x := nilv) zero_len
            have HPS := Lib.hid hps
            clear hps
            go_wp2_with (first
              | ((with_reducible show wpList _ _ _ ((⟨_, Op.build 28 _, _, _, _, _⟩ : Oper) :: _) _ _); refine wpList_part rfl _ rfl [(0, .int .i64 _)] rfl _ (built_k _) ?_)
              | ((with_reducible show wpList _ _ _ ((⟨_, Op.buildSlice 23 _ _, _, _, _, _⟩ : Oper) :: _) _ _); refine wpList_build1 rfl 102 rfl (pcells pk 0 0 0 nilv zero32).toArray HPS.out rfl ?_)
              | (at_builtin; refine wpList_append_at _ rfl (.tmp 96) (.tmp 103) 23 rfl w.heap.size 28 i0 _ 37 88 Try.underlying23 HI.out.1 HI.out.2.1 HI.out.2.2.1 HI.out.2.2.2 (psize zero_len) (by omega) u6 qs.length (flat qs) rfl ?l41 ⟨w6.heap.size, 0, none⟩ 1 1 (cellsOf (zeroOf p) nilv) rfl ?l42 ?l43 (cells_one rfl) ?l44 ?l45 ?l46 ?_))
            case l41 => exact HOUT6.out.1.alloc _
            case l42 => rw [cellsOf_len (zero_ok HOK.out)]
            case l43 =>
              intro j u hu
              have hn := Whole.new w6 28 (pcells pk 0 0 0 nilv zero32).toArray
              try rw [Addr.add_lit, Nat.zero_add, hn.cell]
              rw [← HZC.out]
              simpa using hu
            case l44 => unfold maxLen; omega
            case l45 => omega
            case l46 => first | omega | (simp; omega)
            intro v' w7 hown hgr hat
            have HN : Hid (WantAt w ps l (.slice A m d) v' (.bool true) (.int .i64 ((k : Int) + 1)) w7) := Lib.hid (want_lost (by rw [HLEN.out]; exact c) hqk hm HSN.out HT0.out (out_app HOUT6.out (zero_ok HOK.out) (Txt.nil _ _ none 0) hown hgr (by simpa using hat)) HMAP.out
              (((HTX6.out.below (below_alloc w6 _) (fun _ h _ => h))).grown hgr (fun b _ hb e => by have h1 := own_ge HOUT6.out.1 b e.symm; have : b < w.heap.size := hb; omega)) ((HBL6.out.alloc z6 _).grown hgr (by simp; omega) (own_ge HOUT6.out.1)))
            clear hown hgr hat
            go_wp2
            exact ⟨HN.out, by simp [intOf]; omega⟩
          · have d1 : decide (nv < pl) = false := by simp; omega
            have d2 : decide (pm < nv) = true := by simp; omega
            go_upto_region 25 with (fail)
            clear g0 f0 cl cm d1 d2 HQ
            generalize w2.setCell ⟨wr.heap.size, 1, none⟩ (.int .i64 nv) = w6 at *
            have HOUT6 := Lib.hid (HOUT.out.keep (fun b hlt _ => HB6.out.block b hlt) HB6.out.size)
            have HTX6 : Hid (Txt w6 (· < w.heap.size) A m d bb) := Lib.hid (HTX.out.below HB6.out (fun b h _ => h))
            have HBL6 : Hid (Below w.heap.size w w6) := Lib.hid (HBL.out.trans (HB6.out.mono hz))
            have z6 : w.heap.size ≤ w6.heap.size := HBL6.out.size
            have c6 : w6.cell? ⟨b, off + k * 37, none⟩ = some (.int .i64 pk) := by
              have := (HAT.out.keep (w' := w6) (HB6.out.block b (Nat.lt_of_lt_of_le hlt hz)) HB6.out.size (fun b hb _ => HB6.out.block b hb)).hk
              rwa [HPK.out] at this
            clear HB6
            have HT0 : Hid (takeOf p (reads (ps.take k) l).2.1 (reads (ps.take k) l).2.2 = (some (zeroOf p), [], true)) := Lib.hid (by
              cases hgv : (reads (ps.take k) l).2.2 with
              | true => rw [reads_gave _ _ hgv]; exact take_zero HV.out
              | false => rw [← HBB.out hgv]; exact HLOST.out (by rw [← HG.out, hgv]))
            have HZC : Hid (cellsOf (zeroOf p) nilv = pcells pk 0 0 0 nilv zero32) := Lib.hid (by unfold cellsOf zeroOf; rw [HPK.out])
            have hps := psize (k := pk) (n := 0) (l := 0) (m := 0) (x := nilv) zero_len
            have HPS := Lib.hid hps
            clear hps
            go_wp2_with (first
              | ((with_reducible show wpList _ _ _ ((⟨_, Op.build 28 _, _, _, _, _⟩ : Oper) :: _) _ _); refine wpList_part rfl _ rfl [(0, .int .i64 _)] rfl _ (built_k _) ?_)
              | ((with_reducible show wpList _ _ _ ((⟨_, Op.buildSlice 23 _ _, _, _, _, _⟩ : Oper) :: _) _ _); refine wpList_build1 rfl 102 rfl (pcells pk 0 0 0 nilv zero32).toArray HPS.out rfl ?_)
              | (at_builtin; refine wpList_append_at _ rfl (.tmp 96) (.tmp 103) 23 rfl w.heap.size 28 i0 _ 37 88 Try.underlying23 HI.out.1 HI.out.2.1 HI.out.2.2.1 HI.out.2.2.2 (psize zero_len) (by omega) u6 qs.length (flat qs) rfl ?l51 ⟨w6.heap.size, 0, none⟩ 1 1 (cellsOf (zeroOf p) nilv) rfl ?l52 ?l53 (cells_one rfl) ?l54 ?l55 ?l56 ?_))
            case l51 => exact HOUT6.out.1.alloc _
            case l52 => rw [cellsOf_len (zero_ok HOK.out)]
            case l53 =>
              intro j u hu
              have hn := Whole.new w6 28 (pcells pk 0 0 0 nilv zero32).toArray
              try rw [Addr.add_lit, Nat.zero_add, hn.cell]
              rw [← HZC.out]
              simpa using hu
            case l54 => unfold maxLen; omega
            case l55 => omega
            case l56 => first | omega | (simp; omega)
            intro v' w7 hown hgr hat
            have HN : Hid (WantAt w ps l (.slice A m d) v' (.bool true) (.int .i64 ((k : Int) + 1)) w7) := Lib.hid (want_lost (by rw [HLEN.out]; exact c) hqk hm HSN.out HT0.out (out_app HOUT6.out (zero_ok HOK.out) (Txt.nil _ _ none 0) hown hgr (by simpa using hat)) HMAP.out
              (((HTX6.out.below (below_alloc w6 _) (fun _ h _ => h))).grown hgr (fun b _ hb e => by have h1 := own_ge HOUT6.out.1 b e.symm; have : b < w.heap.size := hb; omega)) ((HBL6.out.alloc z6 _).grown hgr (by simp; omega) (own_ge HOUT6.out.1)))
            clear hown hgr hat
            go_wp2
            exact ⟨HN.out, by simp [intOf]; omega⟩
      by_cases h2 : pk = 2
      · have e1 : (pk == 1) = false := by simp [h1]
        have e2 : (pk == 2) = true := by simp [h2]
        have HH2 := Lib.hid h2
        have HV : Hid (Valid p) := Lib.hid (by unfold Valid; rw [HPK.out, h2]; omega)
        clear h1 h2
        have cm := (HAT.out.keep (w' := w1) (HB1.out.block b (Nat.lt_of_lt_of_le hlt hz)) HB1.out.size (fun b hb _ => HB1.out.block b hb)).hm
        obtain ⟨pm, hpm⟩ : ∃ pm, p.most = pm := ⟨_, rfl⟩
        rw [hpm] at cm
        have hpmi := HOK.out.most
        rw [hpm] at hpmi
        have pm0 := hpmi.1
        have pm1 := hpmi.2
        have HPM := Lib.hid hpm
        clear hpm hpmi
        go_wp2_with fail
        refine (gettext_ref (pm.tmod 100000) HTX1.out (by omega)).mono ?_
        rintro e w2 ⟨hb2, hgt⟩
        have hw2 := HW1.out.below hb2 hP1
        have hb02 : Below wr.heap.size wr w2 := HB1.out.trans (hb2.mono HB1.out.size)
        clear cm
        cases htt : txtOf (pm.tmod 100000) bb with
        | none =>
          rw [htt] at hgt
          subst hgt
          have HLOST : Hid (gave = false → takeOf p bb false = (some (zeroOf p), [], true)) := Lib.hid (fun _ => take2_none (by rw [HPK.out, HH2.out]) (by rw [HPM.out, htt]))
          have HB6 : Hid (Below wr.heap.size wr (w2.setCell ⟨wr.heap.size, 4, none⟩ (.slice none 0 0))) := Lib.hid (hb02.setCell (p := ⟨wr.heap.size, 4, none⟩) (Nat.le_refl _) _)
          have g0 : w2.cell? ⟨wr.heap.size, 4, none⟩ = some nilv := hw2.cell 4
          have f0 : w2.frozen? ⟨wr.heap.size, 4, none⟩ = false := hw2.frozen 4
          clear htt hw2 hb02 hb2
          go_upto_region 25 with (fail)
          clear g0 f0
          generalize w2.setCell ⟨wr.heap.size, 4, none⟩ (.slice none 0 0) = w6 at *
          have HOUT6 := Lib.hid (HOUT.out.keep (fun b hlt _ => HB6.out.block b hlt) HB6.out.size)
          have HTX6 : Hid (Txt w6 (· < w.heap.size) A m d bb) := Lib.hid (HTX.out.below HB6.out (fun b h _ => h))
          have HBL6 : Hid (Below w.heap.size w w6) := Lib.hid (HBL.out.trans (HB6.out.mono hz))
          have z6 : w.heap.size ≤ w6.heap.size := HBL6.out.size
          have c6 : w6.cell? ⟨b, off + k * 37, none⟩ = some (.int .i64 pk) := by
            have := (HAT.out.keep (w' := w6) (HB6.out.block b (Nat.lt_of_lt_of_le hlt hz)) HB6.out.size (fun b hb _ => HB6.out.block b hb)).hk
            rwa [HPK.out] at this
          clear HB6
          have HT0 : Hid (takeOf p (reads (ps.take k) l).2.1 (reads (ps.take k) l).2.2 = (some (zeroOf p), [], true)) := Lib.hid (by
            cases hgv : (reads (ps.take k) l).2.2 with
            | true => rw [reads_gave _ _ hgv]; exact take_zero HV.out
            | false => rw [← HBB.out hgv]; exact HLOST.out (by rw [← HG.out, hgv]))
          have HZC : Hid (cellsOf (zeroOf p) nilv = pcells pk 0 0 0 nilv zero32) := Lib.hid (by unfold cellsOf zeroOf; rw [HPK.out])
          have hps := psize (k := pk) (n := 0) (l := 0) (m := 0) (x := nilv) zero_len
          have HPS := Lib.hid hps
          clear hps
          go_wp2_with (first
            | ((with_reducible show wpList _ _ _ ((⟨_, Op.build 28 _, _, _, _, _⟩ : Oper) :: _) _ _); refine wpList_part rfl _ rfl [(0, .int .i64 _)] rfl _ (built_k _) ?_)
            | ((with_reducible show wpList _ _ _ ((⟨_, Op.buildSlice 23 _ _, _, _, _, _⟩ : Oper) :: _) _ _); refine wpList_build1 rfl 102 rfl (pcells pk 0 0 0 nilv zero32).toArray HPS.out rfl ?_)
            | (at_builtin; refine wpList_append_at _ rfl (.tmp 96) (.tmp 103) 23 rfl w.heap.size 28 i0 _ 37 88 Try.underlying23 HI.out.1 HI.out.2.1 HI.out.2.2.1 HI.out.2.2.2 (psize zero_len) (by omega) u6 qs.length (flat qs) rfl ?l61 ⟨w6.heap.size, 0, none⟩ 1 1 (cellsOf (zeroOf p) nilv) rfl ?l62 ?l63 (cells_one rfl) ?l64 ?l65 ?l66 ?_))
          case l61 => exact HOUT6.out.1.alloc _
          case l62 => rw [cellsOf_len (zero_ok HOK.out)]
          case l63 =>
            intro j u hu
            have hn := Whole.new w6 28 (pcells pk 0 0 0 nilv zero32).toArray
            try rw [Addr.add_lit, Nat.zero_add, hn.cell]
            rw [← HZC.out]
            simpa using hu
          case l64 => unfold maxLen; omega
          case l65 => omega
          case l66 => first | omega | (simp; omega)
          intro v' w7 hown hgr hat
          have HN : Hid (WantAt w ps l (.slice A m d) v' (.bool true) (.int .i64 ((k : Int) + 1)) w7) := Lib.hid (want_lost (by rw [HLEN.out]; exact c) hqk hm HSN.out HT0.out (out_app HOUT6.out (zero_ok HOK.out) (Txt.nil _ _ none 0) hown hgr (by simpa using hat)) HMAP.out
            (((HTX6.out.below (below_alloc w6 _) (fun _ h _ => h))).grown hgr (fun b _ hb e => by have h1 := own_ge HOUT6.out.1 b e.symm; have : b < w.heap.size := hb; omega)) ((HBL6.out.alloc z6 _).grown hgr (by simp; omega) (own_ge HOUT6.out.1)))
          clear hown hgr hat
          go_wp2
          exact ⟨HN.out, by simp [intOf]; omega⟩
        | some o =>
          obtain ⟨t, r⟩ := o
          rw [htt] at hgt
          obtain ⟨xa, xc, he, hxt, hrl, hrd⟩ := hgt
          subst he
          obtain ⟨kk, hkk⟩ : ∃ kk, bb.length - r.length = kk := ⟨_, rfl⟩
          rw [hkk] at hrd
          rw [hkk]
          have hkm : kk ≤ m := by have := HTX1.out.1; omega
          have hkp : kk ≠ 0 := by omega
          obtain ⟨tl, htl⟩ : ∃ tl, t.length = tl := ⟨_, rfl⟩
          rw [htl] at hxt
          rw [htl]
          have HLG : Hid ((kk = 0 → (gave = false → takeOf p bb false = (some (zeroOf p), [], true))) ∧ (kk ≠ 0 → takeOf p bb false = (some (mkB t), bb.drop kk, false))) := Lib.hid ⟨fun h => absurd h hkp, fun _ => take2_some (by rw [HPK.out, HH2.out]) (by rw [HPM.out, htt, hrd])⟩
          have h3 : Whole (w2.setCell ⟨wr.heap.size, 4, none⟩ (.slice xa tl xc)) wr.heap.size 28 (cellsOf (mkB t) (.slice xa tl xc)).toArray := by
            have h2 := hw2.set 4 (.slice xa tl xc)
            rw [List.setIfInBounds_toArray, HH2.out] at h2
            exact h2
          have HB6 : Hid (Below wr.heap.size wr (w2.setCell ⟨wr.heap.size, 4, none⟩ (.slice xa tl xc))) := Lib.hid (hb02.setCell (p := ⟨wr.heap.size, 4, none⟩) (Nat.le_refl _) _)
          have hz1 : w.heap.size ≤ w1.heap.size := Nat.le_trans hz HB1.out.size
          have HQ6 : Hid (Whole (w2.setCell ⟨wr.heap.size, 4, none⟩ (.slice xa tl xc)) wr.heap.size 28 (cellsOf (mkB t) (.slice xa tl xc)).toArray ∧ (mkB t).Ok ∧ Txt (w2.setCell ⟨wr.heap.size, 4, none⟩ (.slice xa tl xc)) (· < w.heap.size) xa tl xc (mkB t).b) := Lib.hid ⟨h3, mkB_ok t, (hxt.keep (w' := w2.setCell ⟨wr.heap.size, 4, none⟩ (.slice xa tl xc)) (by simp) (fun b _ hb => Below.heap_setCell _ ⟨wr.heap.size, 4, none⟩ _ b (by have : b < w.heap.size := hb; show b ≠ wr.heap.size; omega)))⟩
          have g0 : w2.cell? ⟨wr.heap.size, 4, none⟩ = some nilv := hw2.cell 4
          have f0 : w2.frozen? ⟨wr.heap.size, 4, none⟩ = false := hw2.frozen 4
          clear htt hw2 hb02 hb2 h3 hxt hrl hrd hkk htl hkp
          go_upto_region 25 with (fail)
          clear g0 f0
          generalize w2.setCell ⟨wr.heap.size, 4, none⟩ (.slice xa tl xc) = w6 at *
          have HOUT6 := Lib.hid (HOUT.out.keep (fun b hlt _ => HB6.out.block b hlt) HB6.out.size)
          have HTX6 : Hid (Txt w6 (· < w.heap.size) A m d bb) := Lib.hid (HTX.out.below HB6.out (fun b h _ => h))
          have HBL6 : Hid (Below w.heap.size w w6) := Lib.hid (HBL.out.trans (HB6.out.mono hz))
          have z6 : w.heap.size ≤ w6.heap.size := HBL6.out.size
          have c6 : w6.cell? ⟨b, off + k * 37, none⟩ = some (.int .i64 pk) := by
            have := (HAT.out.keep (w' := w6) (HB6.out.block b (Nat.lt_of_lt_of_le hlt hz)) HB6.out.size (fun b hb _ => HB6.out.block b hb)).hk
            rwa [HPK.out] at this
          clear HB6
          by_cases hk0 : kk = 0
          · have ek : ((kk : Int) == 0) = true := by rw [beq_iff_eq]; omega
            have HLOST := Lib.hid (HLG.out.1 hk0)
            clear hk0
            have HT0 : Hid (takeOf p (reads (ps.take k) l).2.1 (reads (ps.take k) l).2.2 = (some (zeroOf p), [], true)) := Lib.hid (by
              cases hgv : (reads (ps.take k) l).2.2 with
              | true => rw [reads_gave _ _ hgv]; exact take_zero HV.out
              | false => rw [← HBB.out hgv]; exact HLOST.out (by rw [← HG.out, hgv]))
            have HZC : Hid (cellsOf (zeroOf p) nilv = pcells pk 0 0 0 nilv zero32) := Lib.hid (by unfold cellsOf zeroOf; rw [HPK.out])
            have hps := psize (k := pk) (n := 0) (l := 0) (m := 0) (x := nilv) zero_len
            have HPS := Lib.hid hps
            clear hps
            go_wp2_with (first
              | ((with_reducible show wpList _ _ _ ((⟨_, Op.build 28 _, _, _, _, _⟩ : Oper) :: _) _ _); refine wpList_part rfl _ rfl [(0, .int .i64 _)] rfl _ (built_k _) ?_)
              | ((with_reducible show wpList _ _ _ ((⟨_, Op.buildSlice 23 _ _, _, _, _, _⟩ : Oper) :: _) _ _); refine wpList_build1 rfl 102 rfl (pcells pk 0 0 0 nilv zero32).toArray HPS.out rfl ?_)
              | (at_builtin; refine wpList_append_at _ rfl (.tmp 96) (.tmp 103) 23 rfl w.heap.size 28 i0 _ 37 88 Try.underlying23 HI.out.1 HI.out.2.1 HI.out.2.2.1 HI.out.2.2.2 (psize zero_len) (by omega) u6 qs.length (flat qs) rfl ?l71 ⟨w6.heap.size, 0, none⟩ 1 1 (cellsOf (zeroOf p) nilv) rfl ?l72 ?l73 (cells_one rfl) ?l74 ?l75 ?l76 ?_))
            case l71 => exact HOUT6.out.1.alloc _
            case l72 => rw [cellsOf_len (zero_ok HOK.out)]
            case l73 =>
              intro j u hu
              have hn := Whole.new w6 28 (pcells pk 0 0 0 nilv zero32).toArray
              try rw [Addr.add_lit, Nat.zero_add, hn.cell]
              rw [← HZC.out]
              simpa using hu
            case l74 => unfold maxLen; omega
            case l75 => omega
            case l76 => first | omega | (simp; omega)
            intro v' w7 hown hgr hat
            have HN : Hid (WantAt w ps l (.slice A m d) v' (.bool true) (.int .i64 ((k : Int) + 1)) w7) := Lib.hid (want_lost (by rw [HLEN.out]; exact c) hqk hm HSN.out HT0.out (out_app HOUT6.out (zero_ok HOK.out) (Txt.nil _ _ none 0) hown hgr (by simpa using hat)) HMAP.out
              (((HTX6.out.below (below_alloc w6 _) (fun _ h _ => h))).grown hgr (fun b _ hb e => by have h1 := own_ge HOUT6.out.1 b e.symm; have : b < w.heap.size := hb; omega)) ((HBL6.out.alloc z6 _).grown hgr (by simp; omega) (own_ge HOUT6.out.1)))
            clear hown hgr hat
            go_wp2
            exact ⟨HN.out, by simp [intOf]; omega⟩
          · have ek : ((kk : Int) == 0) = false := by rw [beq_eq_false_iff_ne]; omega
            have HKK := Lib.hid hk0
            cases gave with
            | true =>
              have HLOST : Hid (true = false → takeOf p bb false = (some (zeroOf p), [], true)) := Lib.hid (fun h => by cases h)
              clear hk0
              have HT0 : Hid (takeOf p (reads (ps.take k) l).2.1 (reads (ps.take k) l).2.2 = (some (zeroOf p), [], true)) := Lib.hid (by
                cases hgv : (reads (ps.take k) l).2.2 with
                | true => rw [reads_gave _ _ hgv]; exact take_zero HV.out
                | false => rw [← HBB.out hgv]; exact HLOST.out (by rw [← HG.out, hgv]))
              have HZC : Hid (cellsOf (zeroOf p) nilv = pcells pk 0 0 0 nilv zero32) := Lib.hid (by unfold cellsOf zeroOf; rw [HPK.out])
              have hps := psize (k := pk) (n := 0) (l := 0) (m := 0) (x := nilv) zero_len
              have HPS := Lib.hid hps
              clear hps
              go_wp2_with (first
                | ((with_reducible show wpList _ _ _ ((⟨_, Op.build 28 _, _, _, _, _⟩ : Oper) :: _) _ _); refine wpList_part rfl _ rfl [(0, .int .i64 _)] rfl _ (built_k _) ?_)
                | ((with_reducible show wpList _ _ _ ((⟨_, Op.buildSlice 23 _ _, _, _, _, _⟩ : Oper) :: _) _ _); refine wpList_build1 rfl 102 rfl (pcells pk 0 0 0 nilv zero32).toArray HPS.out rfl ?_)
                | (at_builtin; refine wpList_append_at _ rfl (.tmp 96) (.tmp 103) 23 rfl w.heap.size 28 i0 _ 37 88 Try.underlying23 HI.out.1 HI.out.2.1 HI.out.2.2.1 HI.out.2.2.2 (psize zero_len) (by omega) u6 qs.length (flat qs) rfl ?l81 ⟨w6.heap.size, 0, none⟩ 1 1 (cellsOf (zeroOf p) nilv) rfl ?l82 ?l83 (cells_one rfl) ?l84 ?l85 ?l86 ?_))
              case l81 => exact HOUT6.out.1.alloc _
              case l82 => rw [cellsOf_len (zero_ok HOK.out)]
              case l83 =>
                intro j u hu
                have hn := Whole.new w6 28 (pcells pk 0 0 0 nilv zero32).toArray
                try rw [Addr.add_lit, Nat.zero_add, hn.cell]
                rw [← HZC.out]
                simpa using hu
              case l84 => unfold maxLen; omega
              case l85 => omega
              case l86 => first | omega | (simp; omega)
              intro v' w7 hown hgr hat
              have HN : Hid (WantAt w ps l (.slice A m d) v' (.bool true) (.int .i64 ((k : Int) + 1)) w7) := Lib.hid (want_lost (by rw [HLEN.out]; exact c) hqk hm HSN.out HT0.out (out_app HOUT6.out (zero_ok HOK.out) (Txt.nil _ _ none 0) hown hgr (by simpa using hat)) HMAP.out
                (((HTX6.out.below (below_alloc w6 _) (fun _ h _ => h))).grown hgr (fun b _ hb e => by have h1 := own_ge HOUT6.out.1 b e.symm; have : b < w.heap.size := hb; omega)) ((HBL6.out.alloc z6 _).grown hgr (by simp; omega) (own_ge HOUT6.out.1)))
              clear hown hgr hat
              go_wp2
              exact ⟨HN.out, by simp [intOf]; omega⟩
            | false =>
              have HGOT := Lib.hid (HLG.out.2 hk0)
              clear hk0
              have HTG : Hid (takeOf p (reads (ps.take k) l).2.1 (reads (ps.take k) l).2.2 = (some (mkB t), bb.drop kk, false)) := Lib.hid (by
                rw [HG.out, ← HBB.out HG.out]; exact HGOT.out)
              generalize hC : (cellsOf (mkB t) (.slice xa tl xc)).toArray = CW at *
              have HCW := Lib.hid hC
              have hCWs : CW.size = 37 := by rw [← hC, List.size_toArray, cellsOf_len HQ6.out.2.1]
              clear hC
              have hkd : kk ≤ d := by have := HTX6.out.2.1; omega
              obtain ⟨A2, hsl, HTS⟩ : ∃ A2, (∀ w, (Instr.slice 25 (.slice A m d) (some (.int .i64 (kk : Int))) none none).run Try.prog w = .ok (.slice A2 (m - kk) (d - kk)) w) ∧ Hid (∀ w7, Txt w7 (· < w.heap.size) A m d bb → Txt w7 (· < w.heap.size) A2 (m - kk) (d - kk) (bb.drop kk)) := ⟨_, slice_lo (by omega), Lib.hid (fun w7 h => h.drop kk (by omega))⟩
              go_wp2_with (first
                | ((with_reducible show wpList _ _ _ ((⟨_, Op.load 28 _, _, _, _, _⟩ : Oper) :: _) _ _); refine wpList_load_row rfl _ (.tmp 9) rfl wr.heap.size rfl 28 CW (0, 0) _ HQ6.out.1 Try.underlying28 rfl (by rw [hCWs]; exact info37) ?_)
                | ((with_reducible show wpList _ _ _ ((⟨_, Op.buildSlice 23 _ _, _, _, _, _⟩ : Oper) :: _) _ _); refine wpList_build1 rfl 106 rfl CW hCWs rfl ?_)
                | (at_builtin; refine wpList_append_at _ rfl (.tmp 105) (.tmp 107) 23 rfl w.heap.size 28 i0 _ 37 88 Try.underlying23 HI.out.1 HI.out.2.1 HI.out.2.2.1 HI.out.2.2.2 (psize zero_len) (by omega) u6 qs.length (flat qs) rfl ?g91 ⟨w6.heap.size, 0, none⟩ 1 1 (cellsOf (mkB t) (.slice xa tl xc)) rfl ?g92 ?g93 (cells_one rfl) ?g94 ?g95 ?g96 ?_))
              case g91 => exact HOUT6.out.1.alloc _
              case g92 => rw [cellsOf_len HQ6.out.2.1]
              case g93 =>
                intro j u hu
                have hn := Whole.new w6 28 CW
                try rw [Addr.add_lit, Nat.zero_add, hn.cell]
                rw [← HCW.out]
                simpa using hu
              case g94 => unfold maxLen; omega
              case g95 => omega
              case g96 => first | omega | (simp; omega)
              intro v' w7 hown hgr hat
              have HN : Hid (WantAt w ps l (.slice A2 (m - kk) (d - kk)) v' (.bool false) (.int .i64 ((k : Int) + 1)) w7) := Lib.hid (want_got (by rw [HLEN.out]; exact c) hqk (by omega) HSN.out HTG.out (out_app HOUT6.out HQ6.out.2.1 HQ6.out.2.2 hown hgr (by simpa using hat)) HMAP.out
                (HTS.out w7 (((HTX6.out.below (below_alloc w6 _) (fun _ h _ => h))).grown hgr (fun b _ hb e => by have h1 := own_ge HOUT6.out.1 b e.symm; have : b < w.heap.size := hb; omega))) ((HBL6.out.alloc z6 _).grown hgr (by simp; omega) (own_ge HOUT6.out.1)))
              clear hown hgr hat
              go_wp2
              exact ⟨HN.out, by simp [intOf]; omega⟩
      by_cases h3 : pk = 3
      · have e1 : (pk == 1) = false := by simp [h1]
        have e2 : (pk == 2) = false := by simp [h2]
        have e3 : (pk == 3) = true := by simp [h3]
        have HH3 := Lib.hid h3
        have HV : Hid (Valid p) := Lib.hid (by unfold Valid; rw [HPK.out, h3]; omega)
        clear h1 h2 h3
        go_wp2
        have HH0 : Hid (Whole w1 wr.heap.size 28 (pcells pk 0 0 0 nilv (bb.take 0 ++ List.replicate (32 - 0) 0)).toArray ∧ Below wr.heap.size wr w1) := Lib.hid ⟨HW1.out, HB1.out⟩
        have HBBL : Hid (bb.length = m) := Lib.hid HTX.out.1
        have HBY : Hid (Cd.Byt bb) := Lib.hid HTX.out.2.2.1
        have hwo := hz
        generalize hwe : wr = wo at *
        clear hwe
        go_loopw [10, 15] (fun v10 v15 wx => ∃ j : Nat, j ≤ 32 ∧ (j = 0 ∨ 32 ≤ m) ∧ v15 = .int .i64 j ∧ v10 = .int .i64 ((if j = 0 then 0 else 32 : Nat) : Int) ∧ Hid (Whole wx wo.heap.size 28 (pcells pk 0 0 0 nilv (bb.take j ++ List.replicate (32 - j) 0)).toArray ∧ Below wo.heap.size wo wx)) (fun _ i _ => 32 - (intOf i).toNat)
        case atStart => exact ⟨0, by omega, Or.inl rfl, rfl, rfl, HH0⟩
        case round =>
          clear HH0
          obtain ⟨j, hj, hjm, rfl, rfl, HJ⟩ := hrel
          by_cases hm32 : 32 ≤ m
          · have hd32 : decide (32 ≤ (m : Int)) = true := by simp; omega
            by_cases hj32 : j < 32
            · have hdj : decide ((j : Int) < 32) = true := by simp; omega
              have q0 : (j : Int) < 32 := by omega
              have htx := HTX.out.below HJ.out.2 (fun b h _ => h)
              obtain ⟨xb, xo, rfl, _, _, cx⟩ := htx.cell (k := j) (by omega)
              clear htx
              have hxx := byt_getD' HBY.out j
              have cs : wr.cell? ⟨wo.heap.size, 5 + j, none⟩ = some (.int .u8 ((bb.take j ++ List.replicate (32 - j) 0).getD j 0)) := (HJ.out.1.cell (5 + j)).trans (hash_get _ j (by rw [List.length_append, List.length_take, HBBL.out, List.length_replicate]; omega))
              have fw : wr.frozen? ⟨wo.heap.size, 5 + j, none⟩ = false := HJ.out.1.frozen _
              have HST := Lib.hid (hash_set (k := pk) (bb := bb) j hj32 (by rw [HBBL.out]; omega))
              with_reducible generalize (bb.take j ++ List.replicate (32 - j) 0).getD j 0 = old at *
              with_reducible generalize bb.getD j 0 = x at *
              go_wp2
              go_roundw
              case rel =>
                refine ⟨j + 1, by omega, Or.inr hm32, by go_num, by rw [if_neg (by omega)]; rfl, Lib.hid ⟨?_, HJ.out.2.setCell (by show wo.heap.size ≤ wo.heap.size; omega) _⟩⟩
                rw [← HST.out]
                exact HJ.out.1.set (5 + j) _
              case measure => simp [intOf]; omega
            · have hdj : decide ((j : Int) < 32) = false := by simp; omega
              have hj2 : j = 32 := by omega
              obtain ⟨kk, hkk⟩ : ∃ kk : Nat, (if j = 0 then 0 else 32 : Nat) = kk := ⟨_, rfl⟩
              have hk32 : kk = 32 := by rw [← hkk, if_neg (by omega)]
              rw [hkk]
              have hkm : kk ≤ m := by omega
              have HQ6 : Hid (Whole wr wo.heap.size 28 (cellsOf (mkH (bb.take 32)) nilv).toArray ∧ (mkH (bb.take 32)).Ok ∧ Txt wr (· < w.heap.size) none 0 0 (mkH (bb.take 32)).b) := Lib.hid ⟨by
                have h := HJ.out.1
                rw [hj2, Nat.sub_self, List.replicate_zero, List.append_nil, HH3.out] at h
                exact h, mkH_ok (by rw [List.length_take, HBBL.out]; omega) (Cd.byt_take HBY.out _), Txt.nil _ _ _ _⟩
              have HB6 := Lib.hid HJ.out.2
              have HLG : Hid ((kk = 0 → (gave = false → takeOf p bb false = (some (zeroOf p), [], true))) ∧ (kk ≠ 0 → takeOf p bb false = (some (mkH (bb.take 32)), bb.drop kk, false))) := Lib.hid ⟨fun h => by omega, fun _ => by
                rw [hk32]; exact take3_some (by rw [HPK.out, HH3.out]) (by rw [HBBL.out]; exact hm32)⟩
              clear hj2 hkk hk32 HJ hjm hj
              go_upto_region 25 with (fail)
              generalize wr = w6 at *
              have HOUT6 := Lib.hid (HOUT.out.keep (fun b hlt _ => HB6.out.block b hlt) HB6.out.size)
              have HTX6 : Hid (Txt w6 (· < w.heap.size) A m d bb) := Lib.hid (HTX.out.below HB6.out (fun b h _ => h))
              have HBL6 : Hid (Below w.heap.size w w6) := Lib.hid (HBL.out.trans (HB6.out.mono hz))
              have z6 : w.heap.size ≤ w6.heap.size := HBL6.out.size
              have c6 : w6.cell? ⟨b, off + k * 37, none⟩ = some (.int .i64 pk) := by
                have := (HAT.out.keep (w' := w6) (HB6.out.block b (Nat.lt_of_lt_of_le hlt hz)) HB6.out.size (fun b hb _ => HB6.out.block b hb)).hk
                rwa [HPK.out] at this
              clear HB6
              by_cases hk0 : kk = 0
              · have ek : ((kk : Int) == 0) = true := by rw [beq_iff_eq]; omega
                have HLOST := Lib.hid (HLG.out.1 hk0)
                clear hk0
                have HT0 : Hid (takeOf p (reads (ps.take k) l).2.1 (reads (ps.take k) l).2.2 = (some (zeroOf p), [], true)) := Lib.hid (by
                  cases hgv : (reads (ps.take k) l).2.2 with
                  | true => rw [reads_gave _ _ hgv]; exact take_zero HV.out
                  | false => rw [← HBB.out hgv]; exact HLOST.out (by rw [← HG.out, hgv]))
                have HZC : Hid (cellsOf (zeroOf p) nilv = pcells pk 0 0 0 nilv zero32) := Lib.hid (by unfold cellsOf zeroOf; rw [HPK.out])
                have hps := psize (k := pk) (n := 0) (l := 0) (m := 0) (x := nilv) zero_len
                have HPS := Lib.hid hps
                clear hps
                go_wp2_with (first
                  | ((with_reducible show wpList _ _ _ ((⟨_, Op.build 28 _, _, _, _, _⟩ : Oper) :: _) _ _); refine wpList_part rfl _ rfl [(0, .int .i64 _)] rfl _ (built_k _) ?_)
                  | ((with_reducible show wpList _ _ _ ((⟨_, Op.buildSlice 23 _ _, _, _, _, _⟩ : Oper) :: _) _ _); refine wpList_build1 rfl 102 rfl (pcells pk 0 0 0 nilv zero32).toArray HPS.out rfl ?_)
                  | (at_builtin; refine wpList_append_at _ rfl (.tmp 96) (.tmp 103) 23 rfl w.heap.size 28 i0 _ 37 88 Try.underlying23 HI.out.1 HI.out.2.1 HI.out.2.2.1 HI.out.2.2.2 (psize zero_len) (by omega) u6 qs.length (flat qs) rfl ?l101 ⟨w6.heap.size, 0, none⟩ 1 1 (cellsOf (zeroOf p) nilv) rfl ?l102 ?l103 (cells_one rfl) ?l104 ?l105 ?l106 ?_))
                case l101 => exact HOUT6.out.1.alloc _
                case l102 => rw [cellsOf_len (zero_ok HOK.out)]
                case l103 =>
                  intro j u hu
                  have hn := Whole.new w6 28 (pcells pk 0 0 0 nilv zero32).toArray
                  try rw [Addr.add_lit, Nat.zero_add, hn.cell]
                  rw [← HZC.out]
                  simpa using hu
                case l104 => unfold maxLen; omega
                case l105 => omega
                case l106 => first | omega | (simp; omega)
                intro v' w7 hown hgr hat
                have HN : Hid (WantAt w ps l (.slice A m d) v' (.bool true) (.int .i64 ((k : Int) + 1)) w7) := Lib.hid (want_lost (by rw [HLEN.out]; exact c) hqk hm HSN.out HT0.out (out_app HOUT6.out (zero_ok HOK.out) (Txt.nil _ _ none 0) hown hgr (by simpa using hat)) HMAP.out
                  (((HTX6.out.below (below_alloc w6 _) (fun _ h _ => h))).grown hgr (fun b _ hb e => by have h1 := own_ge HOUT6.out.1 b e.symm; have : b < w.heap.size := hb; omega)) ((HBL6.out.alloc z6 _).grown hgr (by simp; omega) (own_ge HOUT6.out.1)))
                clear hown hgr hat
                go_wp2
                exact ⟨HN.out, by simp [intOf]; omega⟩
              · have ek : ((kk : Int) == 0) = false := by rw [beq_eq_false_iff_ne]; omega
                have HKK := Lib.hid hk0
                cases gave with
                | true =>
                  have HLOST : Hid (true = false → takeOf p bb false = (some (zeroOf p), [], true)) := Lib.hid (fun h => by cases h)
                  clear hk0
                  have HT0 : Hid (takeOf p (reads (ps.take k) l).2.1 (reads (ps.take k) l).2.2 = (some (zeroOf p), [], true)) := Lib.hid (by
                    cases hgv : (reads (ps.take k) l).2.2 with
                    | true => rw [reads_gave _ _ hgv]; exact take_zero HV.out
                    | false => rw [← HBB.out hgv]; exact HLOST.out (by rw [← HG.out, hgv]))
                  have HZC : Hid (cellsOf (zeroOf p) nilv = pcells pk 0 0 0 nilv zero32) := Lib.hid (by unfold cellsOf zeroOf; rw [HPK.out])
                  have hps := psize (k := pk) (n := 0) (l := 0) (m := 0) (x := nilv) zero_len
                  have HPS := Lib.hid hps
                  clear hps
                  go_wp2_with (first
                    | ((with_reducible show wpList _ _ _ ((⟨_, Op.build 28 _, _, _, _, _⟩ : Oper) :: _) _ _); refine wpList_part rfl _ rfl [(0, .int .i64 _)] rfl _ (built_k _) ?_)
                    | ((with_reducible show wpList _ _ _ ((⟨_, Op.buildSlice 23 _ _, _, _, _, _⟩ : Oper) :: _) _ _); refine wpList_build1 rfl 102 rfl (pcells pk 0 0 0 nilv zero32).toArray HPS.out rfl ?_)
                    | (at_builtin; refine wpList_append_at _ rfl (.tmp 96) (.tmp 103) 23 rfl w.heap.size 28 i0 _ 37 88 Try.underlying23 HI.out.1 HI.out.2.1 HI.out.2.2.1 HI.out.2.2.2 (psize zero_len) (by omega) u6 qs.length (flat qs) rfl ?l111 ⟨w6.heap.size, 0, none⟩ 1 1 (cellsOf (zeroOf p) nilv) rfl ?l112 ?l113 (cells_one rfl) ?l114 ?l115 ?l116 ?_))
                  case l111 => exact HOUT6.out.1.alloc _
                  case l112 => rw [cellsOf_len (zero_ok HOK.out)]
                  case l113 =>
                    intro j u hu
                    have hn := Whole.new w6 28 (pcells pk 0 0 0 nilv zero32).toArray
                    try rw [Addr.add_lit, Nat.zero_add, hn.cell]
                    rw [← HZC.out]
                    simpa using hu
                  case l114 => unfold maxLen; omega
                  case l115 => omega
                  case l116 => first | omega | (simp; omega)
                  intro v' w7 hown hgr hat
                  have HN : Hid (WantAt w ps l (.slice A m d) v' (.bool true) (.int .i64 ((k : Int) + 1)) w7) := Lib.hid (want_lost (by rw [HLEN.out]; exact c) hqk hm HSN.out HT0.out (out_app HOUT6.out (zero_ok HOK.out) (Txt.nil _ _ none 0) hown hgr (by simpa using hat)) HMAP.out
                    (((HTX6.out.below (below_alloc w6 _) (fun _ h _ => h))).grown hgr (fun b _ hb e => by have h1 := own_ge HOUT6.out.1 b e.symm; have : b < w.heap.size := hb; omega)) ((HBL6.out.alloc z6 _).grown hgr (by simp; omega) (own_ge HOUT6.out.1)))
                  clear hown hgr hat
                  go_wp2
                  exact ⟨HN.out, by simp [intOf]; omega⟩
                | false =>
                  have HGOT := Lib.hid (HLG.out.2 hk0)
                  clear hk0
                  have HTG : Hid (takeOf p (reads (ps.take k) l).2.1 (reads (ps.take k) l).2.2 = (some (mkH (bb.take 32)), bb.drop kk, false)) := Lib.hid (by
                    rw [HG.out, ← HBB.out HG.out]; exact HGOT.out)
                  generalize hC : (cellsOf (mkH (bb.take 32)) nilv).toArray = CW at *
                  have HCW := Lib.hid hC
                  have hCWs : CW.size = 37 := by rw [← hC, List.size_toArray, cellsOf_len HQ6.out.2.1]
                  clear hC
                  have hkd : kk ≤ d := by have := HTX6.out.2.1; omega
                  obtain ⟨A2, hsl, HTS⟩ : ∃ A2, (∀ w, (Instr.slice 25 (.slice A m d) (some (.int .i64 (kk : Int))) none none).run Try.prog w = .ok (.slice A2 (m - kk) (d - kk)) w) ∧ Hid (∀ w7, Txt w7 (· < w.heap.size) A m d bb → Txt w7 (· < w.heap.size) A2 (m - kk) (d - kk) (bb.drop kk)) := ⟨_, slice_lo (by omega), Lib.hid (fun w7 h => h.drop kk (by omega))⟩
                  go_wp2_with (first
                    | ((with_reducible show wpList _ _ _ ((⟨_, Op.load 28 _, _, _, _, _⟩ : Oper) :: _) _ _); refine wpList_load_row rfl _ (.tmp 9) rfl wo.heap.size rfl 28 CW (0, 0) _ HQ6.out.1 Try.underlying28 rfl (by rw [hCWs]; exact info37) ?_)
                    | ((with_reducible show wpList _ _ _ ((⟨_, Op.buildSlice 23 _ _, _, _, _, _⟩ : Oper) :: _) _ _); refine wpList_build1 rfl 106 rfl CW hCWs rfl ?_)
                    | (at_builtin; refine wpList_append_at _ rfl (.tmp 105) (.tmp 107) 23 rfl w.heap.size 28 i0 _ 37 88 Try.underlying23 HI.out.1 HI.out.2.1 HI.out.2.2.1 HI.out.2.2.2 (psize zero_len) (by omega) u6 qs.length (flat qs) rfl ?g121 ⟨w6.heap.size, 0, none⟩ 1 1 (cellsOf (mkH (bb.take 32)) nilv) rfl ?g122 ?g123 (cells_one rfl) ?g124 ?g125 ?g126 ?_))
                  case g121 => exact HOUT6.out.1.alloc _
                  case g122 => rw [cellsOf_len HQ6.out.2.1]
                  case g123 =>
                    intro j u hu
                    have hn := Whole.new w6 28 CW
                    try rw [Addr.add_lit, Nat.zero_add, hn.cell]
                    rw [← HCW.out]
                    simpa using hu
                  case g124 => unfold maxLen; omega
                  case g125 => omega
                  case g126 => first | omega | (simp; omega)
                  intro v' w7 hown hgr hat
                  have HN : Hid (WantAt w ps l (.slice A2 (m - kk) (d - kk)) v' (.bool false) (.int .i64 ((k : Int) + 1)) w7) := Lib.hid (want_got (by rw [HLEN.out]; exact c) hqk (by omega) HSN.out HTG.out (out_app HOUT6.out HQ6.out.2.1 HQ6.out.2.2 hown hgr (by simpa using hat)) HMAP.out
                    (HTS.out w7 (((HTX6.out.below (below_alloc w6 _) (fun _ h _ => h))).grown hgr (fun b _ hb e => by have h1 := own_ge HOUT6.out.1 b e.symm; have : b < w.heap.size := hb; omega))) ((HBL6.out.alloc z6 _).grown hgr (by simp; omega) (own_ge HOUT6.out.1)))
                  clear hown hgr hat
                  go_wp2
                  exact ⟨HN.out, by simp [intOf]; omega⟩
          · have hd32 : decide (32 ≤ (m : Int)) = false := by simp; omega
            have hj0 : j = 0 := by omega
            subst hj0
            have HLOST : Hid (gave = false → takeOf p bb false = (some (zeroOf p), [], true)) := Lib.hid (fun _ => take3_none (by rw [HPK.out, HH3.out]) (by rw [HBBL.out]; omega))
            have HB6 := Lib.hid HJ.out.2
            have ei : ((if (0 : Nat) = 0 then 0 else 32 : Nat) : Int) = 0 := by rfl
            rw [ei]
            clear ei
            go_upto_region 25 with (fail)
            clear HJ
            generalize wr = w6 at *
            have HOUT6 := Lib.hid (HOUT.out.keep (fun b hlt _ => HB6.out.block b hlt) HB6.out.size)
            have HTX6 : Hid (Txt w6 (· < w.heap.size) A m d bb) := Lib.hid (HTX.out.below HB6.out (fun b h _ => h))
            have HBL6 : Hid (Below w.heap.size w w6) := Lib.hid (HBL.out.trans (HB6.out.mono hz))
            have z6 : w.heap.size ≤ w6.heap.size := HBL6.out.size
            have c6 : w6.cell? ⟨b, off + k * 37, none⟩ = some (.int .i64 pk) := by
              have := (HAT.out.keep (w' := w6) (HB6.out.block b (Nat.lt_of_lt_of_le hlt hz)) HB6.out.size (fun b hb _ => HB6.out.block b hb)).hk
              rwa [HPK.out] at this
            clear HB6
            have HT0 : Hid (takeOf p (reads (ps.take k) l).2.1 (reads (ps.take k) l).2.2 = (some (zeroOf p), [], true)) := Lib.hid (by
              cases hgv : (reads (ps.take k) l).2.2 with
              | true => rw [reads_gave _ _ hgv]; exact take_zero HV.out
              | false => rw [← HBB.out hgv]; exact HLOST.out (by rw [← HG.out, hgv]))
            have HZC : Hid (cellsOf (zeroOf p) nilv = pcells pk 0 0 0 nilv zero32) := Lib.hid (by unfold cellsOf zeroOf; rw [HPK.out])
            have hps := psize (k := pk) (n := 0) (l := 0) (m := 0) (x := nilv) zero_len
            have HPS := Lib.hid hps
            clear hps
            go_wp2_with (first
              | ((with_reducible show wpList _ _ _ ((⟨_, Op.build 28 _, _, _, _, _⟩ : Oper) :: _) _ _); refine wpList_part rfl _ rfl [(0, .int .i64 _)] rfl _ (built_k _) ?_)
              | ((with_reducible show wpList _ _ _ ((⟨_, Op.buildSlice 23 _ _, _, _, _, _⟩ : Oper) :: _) _ _); refine wpList_build1 rfl 102 rfl (pcells pk 0 0 0 nilv zero32).toArray HPS.out rfl ?_)
              | (at_builtin; refine wpList_append_at _ rfl (.tmp 96) (.tmp 103) 23 rfl w.heap.size 28 i0 _ 37 88 Try.underlying23 HI.out.1 HI.out.2.1 HI.out.2.2.1 HI.out.2.2.2 (psize zero_len) (by omega) u6 qs.length (flat qs) rfl ?l131 ⟨w6.heap.size, 0, none⟩ 1 1 (cellsOf (zeroOf p) nilv) rfl ?l132 ?l133 (cells_one rfl) ?l134 ?l135 ?l136 ?_))
            case l131 => exact HOUT6.out.1.alloc _
            case l132 => rw [cellsOf_len (zero_ok HOK.out)]
            case l133 =>
              intro j u hu
              have hn := Whole.new w6 28 (pcells pk 0 0 0 nilv zero32).toArray
              try rw [Addr.add_lit, Nat.zero_add, hn.cell]
              rw [← HZC.out]
              simpa using hu
            case l134 => unfold maxLen; omega
            case l135 => omega
            case l136 => first | omega | (simp; omega)
            intro v' w7 hown hgr hat
            have HN : Hid (WantAt w ps l (.slice A m d) v' (.bool true) (.int .i64 ((k : Int) + 1)) w7) := Lib.hid (want_lost (by rw [HLEN.out]; exact c) hqk hm HSN.out HT0.out (out_app HOUT6.out (zero_ok HOK.out) (Txt.nil _ _ none 0) hown hgr (by simpa using hat)) HMAP.out
              (((HTX6.out.below (below_alloc w6 _) (fun _ h _ => h))).grown hgr (fun b _ hb e => by have h1 := own_ge HOUT6.out.1 b e.symm; have : b < w.heap.size := hb; omega)) ((HBL6.out.alloc z6 _).grown hgr (by simp; omega) (own_ge HOUT6.out.1)))
            clear hown hgr hat
            go_wp2
            exact ⟨HN.out, by simp [intOf]; omega⟩
      · have HV : Hid (¬ Valid p) := Lib.hid (by unfold Valid; rw [HPK.out]; omega)
        have e1 : (pk == 1) = false := by simp [h1]
        have e2 : (pk == 2) = false := by simp [h2]
        have e3 : (pk == 3) = false := by simp [h3]
        have HN : Hid (WantAt w ps l (.slice A m d) u6 (.bool gave) (.int .i64 ((k : Int) + 1)) w1) := Lib.hid (want_skip (by rw [HLEN.out]; exact c) hqk hm HSN.out HV.out HG.out (HOUT.out.keep (fun b hlt _ => HB1.out.block b hlt) HB1.out.size) HMAP.out HTX1.out HBB.out (HBL.out.trans (HB1.out.mono hz)))
        clear h1 h2 h3
        go_wp2
        exact ⟨HN.out, by simp [intOf]; omega⟩
    · have hd : decide (k < n') = false := by simp; omega
      have HTK : Hid (ps.take k = ps) := Lib.hid (List.take_of_length_le (by have := HLEN.out; omega))
      have HM2 : Hid (qs.map (·.1) = (reads ps l).1) := Lib.hid (by have := HMAP.out; rwa [HTK.out] at this)
      have HG2 : Hid ((reads ps l).2.2 = gave) := Lib.hid (by have := HG.out; rwa [HTK.out] at this)
      have HB2 : Hid ((reads ps l).2.2 = false → bb = (reads ps l).2.1) := Lib.hid (by have := HBB.out; rwa [HTK.out] at this)
      clear HMAP HG HBB HTK
      cases gave with
      | true =>
        have HX : Hid (WantAll w (reads ps l) (.returned (.tuple #[u6, .bool false])) wr) := Lib.hid ⟨qs, u6, by rw [HG2.out]; simp [doneOf], HOUT.out, HM2.out, HBL.out⟩
        go_wp2
        go_ret2
        exact HX.out
      | false =>
        have hbe := HB2.out HG2.out
        by_cases hm0 : m = 0
        · have em : ((m : Int) == 0) = true := by rw [beq_iff_eq]; omega
          have HX : Hid (WantAll w (reads ps l) (.returned (.tuple #[u6, .bool true])) wr) := Lib.hid ⟨qs, u6, by
            have hbn : bb = [] := List.eq_nil_of_length_eq_zero (by rw [HTX.out.1]; exact hm0)
            rw [HG2.out, ← hbe, hbn]; simp [doneOf], HOUT.out, HM2.out, HBL.out⟩
          clear hm0 hbe
          go_wp2
          go_ret2
          exact HX.out
        · have em : ((m : Int) == 0) = false := by rw [beq_eq_false_iff_ne]; omega
          have HX : Hid (WantAll w (reads ps l) (.returned (.tuple #[u6, .bool false])) wr) := Lib.hid ⟨qs, u6, by
            have hbn : bb ≠ [] := fun h => hm0 (by rw [← HTX.out.1, h]; rfl)
            rw [HG2.out, ← hbe]; simp [doneOf, hbn], HOUT.out, HM2.out, HBL.out⟩
          clear hm0 hbe
          go_wp2
          go_ret2
          exact HX.out
end Go.Proofs.Ytkmkccdihoaefaa
