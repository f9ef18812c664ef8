/-
  The walk of the statements' read: what is read of bytes, part by part.
-/
import Derived.Test.YtkmkccdihoaefaaPc
import Derived.Deep.WholeRow
namespace Go.Proofs.Ytkmkccdihoaefaa
open Go.RowKit

def rstep (s : List Prt × List Int × Bool) (p : Prt) : List Prt × List Int × Bool :=
  (s.1 ++ (takeOf p s.2.1 s.2.2).1.toList, (takeOf p s.2.1 s.2.2).2.1, (takeOf p s.2.1 s.2.2).2.2)
def reads (ps : List Prt) (l : List Int) : List Prt × List Int × Bool := ps.foldl rstep ([], l, false)
theorem reads_snoc {ps : List Prt} {k : Nat} {p : Prt} (l : List Int) (hp : ps[k]? = some p) : reads (ps.take (k + 1)) l = rstep (reads (ps.take k) l) p := by
  obtain ⟨hk, rfl⟩ := List.getElem?_eq_some_iff.1 hp
  unfold reads
  rw [List.take_succ_eq_append_getElem hk, List.foldl_append]
  rfl
theorem go_rest {u' : Int} {r : List Int} : ∀ (t : List Int) (u b : Int), Cd.go t u b = some (u', r) → r.length ≤ t.length := by
  intro t
  induction t with
  | nil =>
    intro u b h
    unfold Cd.go at h
    split at h
    · simp at h; rw [← h.2]; simp
    · cases h
  | cons c t ih =>
    intro u b h
    unfold Cd.go at h
    split at h
    · simp at h; rw [← h.2]; simp
    · split at h
      · have := ih _ _ h; simp; omega
      · cases h
theorem get_rest {a b v : Int} {l r : List Int} (h : Cd.get a b l = some (v, r)) : r.length ≤ l.length := by
  unfold Cd.get at h
  split at h
  · rename_i u r' hp
    split at h
    · simp at h
      obtain ⟨_, rfl⟩ := h
      cases l with
      | nil => simp [Cd.parse] at hp
      | cons x t =>
        rw [Cd.parse_cons] at hp
        split at hp
        · cases hp
        · have := go_rest _ _ _ hp; simp; omega
    · cases h
  · cases h
theorem take_rest (p : Prt) (l : List Int) (gave : Bool) : (takeOf p l gave).2.1.length ≤ l.length := by
  unfold takeOf
  split
  · split
    · rename_i h; exact get_rest h
    · simp
  · split
    · split
      · rename_i t r h
        unfold txtOf at h
        split at h
        · rename_i h'
          split at h
          · simp at h
            have := get_rest h'
            rw [← h.2]; simp; omega
          · cases h
        · cases h
      · simp
    · split
      · split
        · simp
        · simp
      · simp
theorem reads_rest (ps : List Prt) (l : List Int) (k : Nat) (hk : k ≤ ps.length) : (reads (ps.take k) l).2.1.length ≤ l.length := by
  induction k with
  | zero => simp [reads]
  | succ k ih =>
    rw [reads_snoc l (List.getElem?_eq_getElem (by omega))]
    exact Nat.le_trans (take_rest _ _ _) (ih (by omega))

theorem Out.keep {w w' : World} {B : Nat} {T : Nat → Prop} {v : Value} {qs : List (Prt × Value)} (h : Out w B T v qs) (hg : ∀ b, b < w.heap.size → (T b ∨ v.ownBlock = some b) → w'.heap[b]? = w.heap[b]?) (hz : w.heap.size ≤ w'.heap.size) : Out w' B T v qs := by
  refine ⟨?_, fun q hq => ?_⟩
  · refine ⟨h.1.1, ?_⟩
    rcases h.1.2 with h' | ⟨g, cap, cur, h1, h2, h3, h4⟩
    · exact Or.inl h'
    · refine Or.inr ⟨g, cap, cur, h1, h2, ?_, h4⟩
      rw [hg g (Array.getElem?_eq_some_iff.1 h3).1 (Or.inr (by rw [h1]; rfl))]
      exact h3
  · obtain ⟨h1, a, n, c, h2, h3⟩ := h.2 q hq
    exact ⟨h1, a, n, c, h2, h3.keep hz (fun b hb hS => hg b hb (Or.inl hS.1))⟩
theorem Out.weak {w : World} {B : Nat} {T T' : Nat → Prop} {v : Value} {qs : List (Prt × Value)} (h : Out w B T v qs) (ht : ∀ b, T b → T' b) : Out w B T' v qs :=
  ⟨h.1, fun q hq => by
    obtain ⟨h1, a, n, c, h2, h3⟩ := h.2 q hq
    exact ⟨h1, a, n, c, h2, h3.weak (fun b _ hS => ⟨ht b hS.1, hS.2⟩)⟩⟩

/-- append onto a row of the call's own; where the new row lies. -/
theorem wpList_append_at {P : Program} (w : World) {ops : Array Oper} {rest : List Oper} {o : Oper} {a : Act} {Q : Exit → Act → World → Prop} (hgd : o.guard = none) (s x : Operand) (t : TypeId)
    (ho : o.op = .call { callee := .builtin .append, args := #[s, x], argTypes := #[t, t] })
    (base : Nat) (e : TypeId) (i : TypeInfo) (z : Value) (size bytes : Nat) (ht : P.underlying t = some (.slice e)) (hi : P.info? e = some i) (hz : i.zero = some z)
    (hsize : i.size = size) (hby : i.bytes = bytes) (hzs : z.cells.size = size) (hsz : 0 < size)
    (v : Value) (n : Nat) (xs : List Value) (hs : a.eval s = v) (hown : w.ownsRow base e size v n xs)
    (ad : Addr) (m c : Nat) (news : List Value) (hx : a.eval x = .slice (some ad) m c) (hl : news.length = m * size) (hnews : ∀ j u, news[j]? = some u → w.cell? (ad.add j) = some u) (h1 : ∀ u ∈ news, u.oneCell' = true)
    (h63 : n + m ≤ maxLen) (hbytes : (n + m) * bytes ≤ 140737488355328) (hbase : base ≤ w.heap.size)
    (h : ∀ v' w', w'.ownsRow base e size v' (n + m) (xs ++ news) → w.grownBy w' v.ownBlock → (v'.ownBlock = v.ownBlock ∨ v'.ownBlock = some w.heap.size) → wpList P ops Q rest (a.put o.dst v') w') : wpList P ops Q (o :: rest) a w := by
  refine wpList_plain hgd fun K hK => ?_
  obtain ⟨v', w', hrun, h2, h3, _, h5⟩ := run_append_own_at (P := P) w base t o.type e i z size bytes ht hi hz hsize hby hzs hsz v n xs hown ad m c news hl hnews h1 h63 hbytes hbase
  unfold Oper.wp execOp
  simp only [ho, resolve, invoke, builtin, Sem.run_bind, Sem.run_pure, Result.andThen_ok, List.map_toArray, List.map_cons, List.map_nil, hs, hx, hrun]
  exact hK _ _ (h v' w' h2 h3 h5)

theorem wpList_build1 {ops : Array Oper} {rest : List Oper} {o : Oper} {a : Act} {w : World} {Q : Exit → Act → World → Prop} (hg : o.guard = none) (ix : Nat) (ho : o.op = .buildSlice 23 1 #[(0, .tmp ix)]) (C : Array Value) (hC : C.size = 37)
    (hev : a.eval (.tmp ix) = .agg C) (h : wpList Try.prog ops Q rest (a.put o.dst (.slice (some ⟨w.heap.size, 0, none⟩) 1 1)) (w.alloc (.cells C 28))) : wpList Try.prog ops Q (o :: rest) a w := by
  refine Go.Great.wpList_buildRows hg 23 28 #[(0, .tmp ix)] 37 [.agg C] ho (fun _ => ix) _ rfl _ rfl Try.underlying23 info37 (by kernel_rfl) (by omega) (by simp) (by show 1 * 37 ≤ 2 ^ 24; decide) rfl ?_ ?_ ?_
  · intro v hv
    simp at hv
    subst hv
    simpa [Value.cells] using hC
  · intro i hi
    match i, hi with
    | 0, _ => exact hev
  · have : ([Value.agg C].flatMap fun v => v.cells.toList).toArray = C := by simp [Value.cells]
    rw [this]
    exact h
theorem PrtAt.range {w : World} {S : Nat → Prop} {b o : Nat} {p : Prt} (h : PrtAt w S b o p) {x : Value} (hx : w.cell? ⟨b, o + 4, none⟩ = some x) : w.rangeAt b o (cellsOf p x) := by
  intro j v hv
  match j with
  | 0 => simp [cellsOf, pcells] at hv; rw [← hv]; exact h.hk
  | 1 => simp [cellsOf, pcells] at hv; rw [← hv]; exact h.hn
  | 2 => simp [cellsOf, pcells] at hv; rw [← hv]; exact h.hl
  | 3 => simp [cellsOf, pcells] at hv; rw [← hv]; exact h.hm
  | 4 => simp [cellsOf, pcells] at hv; rw [← hv]; exact hx
  | j + 5 =>
    have hv' : (nums p.h)[j]? = some v := by simpa [cellsOf, pcells] using hv
    rw [show o + (j + 5) = o + 5 + j by omega]
    exact h.hh j v hv'
theorem cells_one {p : Prt} {x : Value} (hx : x.oneCell' = true) : ∀ u ∈ cellsOf p x, u.oneCell' = true := by
  intro v hv
  simp only [cellsOf, pcells, List.mem_cons] at hv
  rcases hv with rfl | rfl | rfl | rfl | rfl | hv
  · rfl
  · rfl
  · rfl
  · rfl
  · exact hx
  · exact nums_one p.h v hv
/-- What was there stays where two blocks are made, and a row is appended to. -/
theorem out_step {w2 w5 : World} {B : Nat} {T : Nat → Prop} {v v' : Value} {qs : List (Prt × Value)} {q : Prt} {a : Option Addr} {n c : Nat} {o1 o2 : Obj} (h : Out w2 B T v qs) (hok : q.Ok) (ht : Txt w2 (fun b => T b ∧ v.ownBlock ≠ some b) a n c q.b)
    (hown : w5.ownsRow B 28 37 v' (qs.length + 1) (flat qs ++ cellsOf q (.slice a n c))) (hg : ((w2.alloc o1).alloc o2).grownBy w5 v.ownBlock) (hv : v'.ownBlock = v.ownBlock ∨ v'.ownBlock = some ((w2.alloc o1).alloc o2).heap.size) :
    Out w5 B T v' (qs ++ [(q, .slice a n c)]) := by
  have hb : ∀ b, b < w2.heap.size → ((w2.alloc o1).alloc o2).heap[b]? = w2.heap[b]? := fun b hb => by
    rw [Below.heap_alloc _ _ _ (by simp; omega), Below.heap_alloc _ _ _ hb]
  refine out_append (h.keep (fun b hlt _ => hb b hlt) (by simp; omega)) hok (ht.keep (by simp; omega) (fun b hlt _ => hb b hlt)) hown hg ?_
  rcases hv with e | e
  · exact Or.inl e
  · exact Or.inr ⟨_, Nat.le_refl _, e⟩

/-- What read comes to. -/
def ReadAll (w : World) (s : List Prt × List Int × Bool) (e : Ending) (w' : World) : Prop :=
  ∃ qs v, e = .returned (.tuple #[v, .int .i64 (doneOf s.2.1 s.2.2)]) ∧ Out w' w.heap.size (w.heap.size ≤ ·) v qs ∧ qs.map (·.1) = s.1 ∧ Below w.heap.size w w'

def ReadRel (w : World) (g : Nat) (ps : List Prt) (l : List Int) (s7 s8 : Value) (wr : World) : Prop :=
  ∃ (k : Nat) (qs : List (Prt × Value)), k ≤ ps.length ∧ qs.length ≤ k ∧ s8 = .int .i64 k ∧ Out wr (g + 1) (fun b => w.heap.size ≤ b ∧ b ≠ g) s7 qs ∧ qs.map (·.1) = (reads (ps.take k) l).1 ∧
    Rd wr g (reads (ps.take k) l).2.1 (reads (ps.take k) l).2.2 ∧ Below w.heap.size w wr

set_option maxHeartbeats 2000000 in
theorem read_any {S S' : Nat → Prop} {a a' : Option Addr} {n c n' c' : Nat} {l : List Int} {ps : List Prt} {w : World} (h : Txt w S a n c l) (hp : Prts w S' a' n' ps) (hn : n ≤ 1000000) (hn' : n' ≤ 20) :
    Calls Try.prog 16 #[.slice a n c, .slice a' n' c'] w (ReadAll w (reads ps l)) := by
  obtain ⟨i0, hi0, hz0, hz1, hz2⟩ := info_parts part_info
  have HI := Lib.hid (And.intro hi0 (And.intro hz0 (And.intro hz1 hz2)))
  clear hi0 hz0 hz1 hz2
  have HLL : Hid (l.length ≤ 1000000) := Lib.hid (by rw [h.1]; exact hn)
  have H := Lib.hid h
  have HP := Lib.hid hp.old
  clear h hp
  go_enter Try.func16, Try.ntmps16
  go_wp2_with fail
  refine (new_any H.out (by omega)).mono ?_
  rintro e w1 ⟨g, rfl, hg0, hrd, hbl⟩
  have HS : Hid (ReadRel w g ps l (.slice none 0 0) (.int .i64 0) w1) := Lib.hid ⟨0, [], Nat.zero_le _, Nat.le_refl _, rfl, Out.nil _ _ _, rfl, hrd, hbl⟩
  clear hrd hbl
  go_wp2
  go_loopw [7, 8] (fun s7 s8 wr => ReadRel w g ps l s7 s8 wr) (fun _ i _ => n' - (intOf i).toNat)
  case atStart => exact HS.out
  case round =>
    clear HS
    obtain ⟨k, qs, hk, hqk, rfl, hout, hmap, hrd, hbl⟩ := hrel
    have HLEN := Lib.hid HP.out.1
    have hk' : k ≤ n' := by have := HLEN.out; omega
    have HOUT := Lib.hid hout
    have HMAP := Lib.hid hmap
    have HRD := Lib.hid hrd
    have HBL := Lib.hid hbl
    have hz := hbl.size
    clear hout hmap hrd hbl hk
    by_cases c : k < n'
    · obtain ⟨b, off, p, rfl, hlt, _, hpk, hmem, hok, hat⟩ := HP.out.at_ c
      have hat' := hat.keep (HBL.out.block b hlt) hz (fun b _ h => HBL.out.block b h)
      have HSN := Lib.hid (reads_snoc l hpk)
      obtain ⟨a1, n1, c1, hc4, htx⟩ := hat'.hb
      have HRG : Hid (wr.rangeAt b (off + k * 37) (cellsOf p (.slice a1 n1 c1))) := Lib.hid (hat'.range hc4)
      have HOK := Lib.hid hok
      have HRL : Hid ((reads (ps.take k) l).2.1.length ≤ 1000000) := Lib.hid (Nat.le_trans (reads_rest ps l k (by have := HLEN.out; omega)) HLL.out)
      clear hat hat' hok hmem hpk htx hc4
      have hcl : (cellsOf p (.slice a1 n1 c1)).length = 37 := cellsOf_len HOK.out _
      go_wp2_with ((with_reducible show wpList _ _ _ ((⟨_, Op.load 28 _, _, _, _, _⟩ : Oper) :: _) _ _); refine wpList_load_mid rfl _ (.tmp 23) rfl b (off + k * 37) rfl (cellsOf p (.slice a1 n1 c1)) _ HRG.out Try.underlying28 rfl (by rw [hcl]; exact info37) ?_)
      refine (take_any (.slice a1 n1 c1) HRD.out HOK.out HRL.out).mono ?_
      rintro e w2 (⟨q, a2, n2, c2, ho, hq, rfl, htx, hrd, hgr⟩ | ⟨ho, rfl, hrd, hgr⟩)
      · have hgw := HRD.out.lt
        have hgz := hgr.size
        have hvg : u7.ownBlock ≠ some g := by
          obtain ⟨_, _, _, hw, _⟩ := HRD.out
          exact own_ne HOUT.out.1 hw (by decide)
        have HOUT2 : Hid (Out w2 (g + 1) (fun b => w.heap.size ≤ b ∧ b ≠ g) u7 qs) := Lib.hid (HOUT.out.keep (fun b hlt hb => hgr.block b hlt (by
          rcases hb with hb | hb
          · intro e; injection e with e; exact hb.2 e
          · intro e; rw [e] at hb; exact hvg hb)) hgz)
        have HTX : Hid (Txt w2 (fun b => (w.heap.size ≤ b ∧ b ≠ g) ∧ u7.ownBlock ≠ some b) a2 n2 c2 q.b) := Lib.hid (htx.weak (fun b _ hb => ⟨⟨by omega, by omega⟩, fun e => by have := (HOUT.out.1.lt b e).2; omega⟩))
        have HBL2 : Hid (Below w.heap.size w w2) := Lib.hid (HBL.out.trans ⟨hgr.os, hgr.tape, hgr.output, hgr.size, fun b hb => hgr.block b (by omega) (by intro e; injection e with e; omega)⟩)
        have HRS : Hid (reads (ps.take (k + 1)) l = ((reads (ps.take k) l).1 ++ [q], (takeOf p (reads (ps.take k) l).2.1 (reads (ps.take k) l).2.2).2)) := Lib.hid (by rw [HSN.out]; unfold rstep; rw [ho]; rfl)
        have HRD2 := Lib.hid hrd
        have HQ := Lib.hid hq
        clear ho htx hrd hgr hq hvg
        have hC : (cellsOf q (.slice a2 n2 c2)).toArray.size = 37 := by rw [List.size_toArray, cellsOf_len HQ.out]
        have HCA : Hid ((cellsOf q (.slice a2 n2 c2)).toArray.all (·.oneCell') = true) := Lib.hid (pcells_one rfl)
        have HCL : Hid ((cellsOf q (.slice a2 n2 c2)).toArray.toList = cellsOf q (.slice a2 n2 c2)) := Lib.hid (by simp)
        generalize hCC : (cellsOf q (.slice a2 n2 c2)).toArray = C at *
        have HCC := Lib.hid hCC
        clear hCC
        go_wp2_with (first
          | ((with_reducible show wpList _ _ _ ((⟨_, Op.store 28 _ _, _, _, _, _⟩ : Oper) :: _) _ _); rw [zeroP_lit]; refine wpList_store_row rfl _ (.tmp 9) (.tmp 26) rfl w2.heap.size C rfl rfl 28 _ (Whole.new w2 _ _) (by rw [hC]; exact info37) (by rw [psize zero_len, hC]) HCA.out ?_; rw [World.setRow_alloc_new])
          | ((with_reducible show wpList _ _ _ ((⟨_, Op.load 28 _, _, _, _, _⟩ : Oper) :: _) _ _); refine wpList_load_row rfl _ (.tmp 9) rfl w2.heap.size rfl 28 C (0, 0) _ (Whole.new w2 _ _) Try.underlying28 rfl (by rw [hC]; exact info37) ?_)
          | ((with_reducible show wpList _ _ _ ((⟨_, Op.buildSlice 23 _ _, _, _, _, _⟩ : Oper) :: _) _ _); refine wpList_build1 rfl 30 rfl C hC rfl ?_)
          | (at_builtin; refine wpList_append_at _ rfl (.tmp 29) (.tmp 31) 23 rfl (g + 1) 28 i0 _ 37 88 Try.underlying23 HI.out.1 HI.out.2.1 HI.out.2.2.1 HI.out.2.2.2 (psize zero_len) (by omega) u7 qs.length (flat qs) rfl ?c1 ⟨(w2.alloc (.cells C 28)).heap.size, 0, none⟩ 1 1 (cellsOf q (.slice a2 n2 c2)) rfl ?c2 ?c3 (cells_one rfl) ?c4 ?c5 ?c6 ?_))
        case c1 => exact ((HOUT2.out.1.alloc _).alloc _)
        case c2 => rw [cellsOf_len HQ.out]
        case c3 =>
          intro j u hu
          have hn := Whole.new (w2.alloc (.cells C 28)) 28 C
          rw [Addr.add_lit, Nat.zero_add, hn.cell, ← HCC.out]
          simpa using hu
        case c4 => unfold maxLen; omega
        case c5 => omega
        case c6 => simp; omega
        intro v' w5 hown hgr hat
        have HX : Hid (ReadRel w g ps l v' (.int .i64 ((k : Int) + 1)) w5) := Lib.hid (by
          have hb5 : Below w.heap.size w w5 := ((HBL2.out.alloc HBL2.out.size _).alloc (by have := HBL2.out.size; simp; omega) _).grown hgr (by have := HBL2.out.size; simp; omega) (fun k hk => by have := own_ge HOUT2.out.1 k hk; omega)
          have hB24 : Below w2.heap.size w2 ((w2.alloc (.cells C 28)).alloc (.cells C 28)) := (below_alloc _ _).alloc (by simp) _
          refine ⟨k + 1, qs ++ [(q, .slice a2 n2 c2)], by have := HLEN.out; omega, by simp; omega, by go_num, out_step HOUT2.out HQ.out HTX.out hown hgr (by rw [size_alloc, size_alloc]; exact hat), ?_, ?_, hb5⟩
          · rw [HRS.out, List.map_append, HMAP.out]; rfl
          · rw [HRS.out]
            have h4 := HRD2.out.below hB24
            obtain ⟨a6, n6, c6, hw6, ht6⟩ := h4
            refine ⟨a6, n6, c6, hw6.grown hgr (fun e => by have := own_ge HOUT2.out.1 g e.symm; omega), ht6.grown hgr (fun b _ hb e => by have := own_ge HOUT2.out.1 b e.symm; omega)⟩)
        clear hown hgr hat
        go_wp2
        exact ⟨HX.out, by simp [intOf]; omega⟩
      · have hgw := HRD.out.lt
        have hgz := hgr.size
        have HX : Hid (∀ o, ReadRel w g ps l u7 (.int .i64 ((k : Int) + 1)) (w2.alloc o)) := Lib.hid (fun o => by
          have hvg : u7.ownBlock ≠ some g := fun e => by have := own_ge HOUT.out.1 g e; omega
          have ho2 : Out w2 (g + 1) (fun b => w.heap.size ≤ b ∧ b ≠ g) u7 qs := HOUT.out.keep (fun b hlt hb => hgr.block b hlt (by
            rcases hb with hb | hb
            · intro e; injection e with e; exact hb.2 e
            · intro e; rw [e] at hb; exact hvg hb)) hgz
          have hb2 : Below w.heap.size w w2 := HBL.out.trans ⟨hgr.os, hgr.tape, hgr.output, hgr.size, fun b hb => hgr.block b (by omega) (by intro e; injection e with e; omega)⟩
          have hrs : reads (ps.take (k + 1)) l = ((reads (ps.take k) l).1, (takeOf p (reads (ps.take k) l).2.1 (reads (ps.take k) l).2.2).2) := by rw [HSN.out]; unfold rstep; rw [ho]; simp
          refine ⟨k + 1, qs, by have := HLEN.out; omega, by omega, by go_num, ho2.keep (fun b hlt _ => Below.heap_alloc _ _ _ hlt) (by simp), ?_, ?_, hb2.alloc hb2.size _⟩
          · rw [hrs, HMAP.out]
          · rw [hrs]; exact hrd.below (below_alloc _ _))
        clear ho hrd hgr
        go_wp2_with ((with_reducible show wpList _ _ _ ((⟨_, Op.store 28 _ _, _, _, _, _⟩ : Oper) :: _) _ _); rw [zeroP_lit]; refine wpList_store_row rfl _ (.tmp 9) (.tmp 26) rfl w2.heap.size (pcells 0 0 0 0 nilv zero32).toArray rfl rfl 28 _ (Whole.new w2 _ _) (by rw [psize zero_len]; exact info37) rfl (pcells_one rfl) ?_; rw [World.setRow_alloc_new])
        exact ⟨HX.out _, by simp [intOf]; omega⟩
    · have he : ps.take k = ps := List.take_of_length_le (by have := HLEN.out; omega)
      rw [he] at HMAP HRD
      clear he
      have HX : Hid (ReadAll w (reads ps l) (.returned (.tuple #[u7, .int .i64 (doneOf (reads ps l).2.1 (reads ps l).2.2)])) wr) := Lib.hid ⟨qs, u7, rfl, ⟨own_base (HOUT.out.weak (T' := (w.heap.size ≤ ·)) (fun _ h => h.1)).1 (by omega), (HOUT.out.weak (T' := (w.heap.size ≤ ·)) (fun _ h => h.1)).2⟩, HMAP.out, HBL.out⟩
      go_wp2_with fail
      refine (done_any HRD.out).mono ?_
      rintro e w2 ⟨rfl, rfl⟩
      go_wp2
      go_ret2
      exact HX.out
end Go.Proofs.Ytkmkccdihoaefaa
