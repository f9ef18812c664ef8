/-
  The walk of the statements' take: what a reader answers to a part.
-/
import Derived.Test.YtkmkccdihoaefaaPb
namespace Go.Proofs.Ytkmkccdihoaefaa
open Go.RowKit

def mkN (v : Int) : Prt := ⟨1, v, 0, 0, [], zero32⟩
def mkB (t : List Int) : Prt := ⟨2, 0, 0, 0, t, zero32⟩
def mkH (h : List Int) : Prt := ⟨3, 0, 0, 0, [], h⟩
theorem zero_len : zero32.length = 32 := by simp [zero32]
theorem byt_zero : Cd.Byt zero32 := by
  intro x hx
  have := (List.mem_replicate.1 hx).2
  omega
theorem ok_mk {k n l m : Int} {b h : List Int} (hk : inI64 k) (hn : inI64 n) (hl : inI64 l) (hm : inI64 m) (h1 : h.length = 32) (h2 : Cd.Byt h) : (Prt.mk k n l m b h).Ok := ⟨hk, hn, hl, hm, h1, h2⟩
theorem in_small {n : Int} (h0 : -1000000 ≤ n) (h1 : n ≤ 1000000) : inI64 n := ⟨by omega, by omega⟩
theorem mkN_ok {v : Int} (h : inI64 v) : (mkN v).Ok := ok_mk (in_small (by omega) (by omega)) h (in_small (by omega) (by omega)) (in_small (by omega) (by omega)) zero_len byt_zero
theorem mkB_ok (t : List Int) : (mkB t).Ok := ok_mk (in_small (by omega) (by omega)) (in_small (by omega) (by omega)) (in_small (by omega) (by omega)) (in_small (by omega) (by omega)) zero_len byt_zero
theorem mkH_ok {h : List Int} (h1 : h.length = 32) (h2 : Cd.Byt h) : (mkH h).Ok := ok_mk (in_small (by omega) (by omega)) (in_small (by omega) (by omega)) (in_small (by omega) (by omega)) (in_small (by omega) (by omega)) h1 h2

/-- What is answered to a part, of the rest l; and what the rest is then, and whether the reader gave up. -/
def takeOf (p : Prt) (l : List Int) (gave : Bool) : Option Prt × List Int × Bool :=
  if p.k = 1 then (match Cd.get p.least p.most l with | some (v, r) => (some (mkN v), r, gave) | none => (some (mkN 0), [], true))
  else if p.k = 2 then (match txtOf (p.most.tmod 100000) l with | some (t, r) => (some (mkB t), r, gave) | none => (some (mkB []), [], true))
  else if p.k = 3 then (if 32 ≤ l.length then (some (mkH (l.take 32)), l.drop 32, gave) else (some (mkH zero32), [], true))
  else (none, l, gave)

def Taken (w : World) (g : Nat) (o : Option Prt × List Int × Bool) (e : Ending) (w' : World) : Prop :=
  (∃ q a n c, o.1 = some q ∧ q.Ok ∧ e = .returned (.tuple #[.agg (cellsOf q (.slice a n c)).toArray, .bool true]) ∧ Txt w' (w.heap.size ≤ ·) a n c q.b ∧ Rd w' g o.2.1 o.2.2 ∧ w.grownBy w' (some g)) ∨
  (o.1 = none ∧ e = .returned (.tuple #[.agg (pcells 0 0 0 0 nilv zero32).toArray, .bool false]) ∧ Rd w' g o.2.1 o.2.2 ∧ w.grownBy w' (some g))

theorem Rd.row {w : World} {g B : Nat} {l : List Int} {gave : Bool} (h : Rd w g l gave) (hB : g < B) (N : Array Value) : Rd (w.setRow B N) g l gave := by
  obtain ⟨a, n, c, hw, ht⟩ := h
  exact ⟨a, n, c, hw.rowFar (by omega) N, ht.below (B := B) (below_row (Below.refl _ _) (Nat.le_refl _) N) (fun b _ hb => by omega)⟩
theorem Txt.row {w : World} {S : Nat → Prop} {a : Option Addr} {n c B : Nat} {l : List Int} (h : Txt w S a n c l) (hS : ∀ b, S b → b ≠ B) (N : Array Value) : Txt (w.setRow B N) S a n c l :=
  h.keep (by simp [World.setRow]) (fun b _ hb => setRow_other w B b N (hS b hb))
theorem zeroP_ok : (Prt.mk 0 0 0 0 [] zero32).Ok := ok_mk (in_small (by omega) (by omega)) (in_small (by omega) (by omega)) (in_small (by omega) (by omega)) (in_small (by omega) (by omega)) zero_len byt_zero
theorem pcells_one {k n l m : Int} {x : Value} {h : List Int} (hx : x.oneCell' = true) : (pcells k n l m x h).toArray.all (·.oneCell') = true := by
  refine all_oneCell_toArray ?_
  intro v hv
  simp only [pcells, List.mem_cons] at hv
  rcases hv with rfl | rfl | rfl | rfl | rfl | hv
  · rfl
  · rfl
  · rfl
  · rfl
  · exact hx
  · exact nums_one h v hv
theorem psize {k n l m : Int} {x : Value} {h : List Int} (hh : h.length = 32) : (pcells k n l m x h).toArray.size = 37 := by rw [List.size_toArray, pcells_len hh]
theorem loadVar37 {w : World} {b : Nat} {t : TypeId} {cs : Array Value} (h : Whole w b t cs) (hs : cs.size = 37) : (loadVar 28 ⟨b, 0, none⟩).run Try.prog w = .ok (.agg cs) w :=
  run_loadVar_row w b t _ cs (0, 0) _ h Try.underlying28 rfl (by rw [hs]; exact info37)
theorem results_cell_one {fn : Func} {p u : Tmp} {ty : TypeId} (h : fn.results = #[.cell p ty, .tmp u]) (tmps : Array Value) (P : Program) (w : World) (a : Addr) {v : Value} (ht : tmps.getD p undef = .pointer (some a)) (hv : (loadVar ty a).run P w = .ok v w) :
    (results fn tmps).run P w = .ok (.tuple #[v, tmps.getD u undef]) w := by
  rw [results_cell_tmp h, ht]
  simp [asAddr, hv]

theorem taken_some {w w1 : World} {g : Nat} {o : Option Prt × List Int × Bool} {q : Prt} {a : Option Addr} {n c : Nat} (hgl : g < w.heap.size) (ho : o.1 = some q) (hq : q.Ok) (ht : Txt w1 (fun b => w.heap.size ≤ b ∧ b ≠ w.heap.size + 1) a n c q.b)
    (hr : Rd w1 g o.2.1 o.2.2) (hg : w.grownBy w1 (some g)) (N : Array Value) : Taken w g o (.returned (.tuple #[.agg (cellsOf q (.slice a n c)).toArray, .bool true])) (w1.setRow (w.heap.size + 1) N) :=
  Or.inl ⟨q, a, n, c, ho, hq, rfl, (ht.row (fun _ h => h.2) N).weak (fun _ _ h => h.1), hr.row (by omega) N, grown_row hg (by omega) N⟩

theorem txtOf_byt {m : Int} {l t r : List Int} (h : txtOf m l = some (t, r)) (hb : Cd.Byt l) : Cd.Byt t := by
  unfold txtOf at h
  split at h
  · rename_i n r' hg
    split at h
    · simp at h
      rw [← h.1]
      have h1 := Cd.get_enc hg hb
      refine Cd.byt_take ?_ _
      rw [h1.2.2.2.2] at hb
      exact Cd.byt_right hb
    · cases h
  · cases h
/-- The world behind take's first lines. -/
theorem take_head {w : World} {g : Nat} {l : List Int} {gave : Bool} (P Z : Array Value) (h : Rd w g l gave) :
    Below w.heap.size w ((w.alloc (.cells P 28)).alloc (.cells Z 28)) ∧ Whole ((w.alloc (.cells P 28)).alloc (.cells Z 28)) (w.heap.size + 1) 28 Z ∧
      Rd ((w.alloc (.cells P 28)).alloc (.cells Z 28)) g l gave ∧ w.heap.size + 2 ≤ ((w.alloc (.cells P 28)).alloc (.cells Z 28)).heap.size := by
  have hb := (below_alloc w (.cells P 28)).alloc (by simp) (.cells Z 28)
  have k2 := Whole.new (w.alloc (.cells P 28)) 28 Z
  rw [size_alloc] at k2
  exact ⟨hb, k2, h.below hb, by simp⟩

set_option maxHeartbeats 1000000 in
theorem take1 {w : World} {g : Nat} {l : List Int} {gave : Bool} {p : Prt} (x : Value) (h : Rd w g l gave) (hok : p.Ok) (hk : p.k = 1) :
    Calls Try.prog 30 #[.pointer (some ⟨g, 0, none⟩), .agg (cellsOf p x).toArray] w (Taken w g (takeOf p l gave)) := by
  obtain ⟨O, hO⟩ : ∃ O, takeOf p l gave = O := ⟨_, rfl⟩
  rw [hO]
  unfold takeOf at hO
  rw [if_pos hk] at hO
  have HO := Lib.hid hO
  clear hO
  have hgl := h.lt
  have H := Lib.hid h
  have HOK := Lib.hid hok
  have e1 : (p.k == 1) = true := by simp [hk]
  clear hk
  have c0 : (cellsOf p x).toArray[0]? = some (.int .i64 p.k) := rfl
  have c2 : (cellsOf p x).toArray[2]? = some (.int .i64 p.least) := rfl
  have c3 : (cellsOf p x).toArray[3]? = some (.int .i64 p.most) := rfl
  clear h hok
  generalize (cellsOf p x).toArray = P at *
  go_enter Try.func30, Try.ntmps30
  go_wp2_with fail
  rw [zeroP_lit]
  obtain ⟨hb2, k2, h2, hz2⟩ := take_head P (pcells 0 0 0 0 nilv zero32).toArray H.out
  generalize (w.alloc (.cells P 28)).alloc (.cells (pcells 0 0 0 0 nilv zero32).toArray 28) = w2 at *
  have HB2 := Lib.hid hb2
  have K2 := Lib.hid k2
  have HR := Lib.hid h2
  clear hb2 k2 h2 H
  refine (rint_any p.least p.most HR.out).mono ?_
  rintro e w1 (⟨v, r, ho, rfl, hrd, hgr⟩ | ⟨ho, rfl, hrd, hgr⟩)
  · have K21 := Lib.hid (K2.out.grown hgr (by simp; omega))
    have HV : Hid (O = (some (mkN v), r, gave)) := Lib.hid (by have := HO.out; rw [ho] at this; exact this.symm)
    have HV1 : Hid (O.1 = some (mkN v)) := Lib.hid (by rw [HV.out])
    have HR1 : Hid (Rd w1 g O.2.1 O.2.2) := Lib.hid (by rw [HV.out]; exact hrd)
    have HOKV : Hid (inI64 v) := Lib.hid (by have := Cd.get_enc ho HR.out.byt; exact ⟨this.1, this.2.1⟩)
    have HG1 := Lib.hid (grown_of HB2.out hgr)
    clear ho hrd hgr
    go_wp2_with (first
      | ((with_reducible show wpList _ _ _ ((⟨_, Op.build 28 _, _, _, _, _⟩ : Oper) :: _) _ _); refine wpList_part rfl _ rfl _ rfl _ (built_kn 1 v) ?_)
      | ((with_reducible show wpList _ _ _ ((⟨_, Op.store 28 _ _, _, _, _, _⟩ : Oper) :: _) _ _); refine wpList_store_row rfl _ (.tmp 4) (.tmp 16) rfl (w.heap.size + 1) _ rfl rfl 28 _ K21.out (by rw [psize zero_len]; exact info37) (by rw [psize zero_len, psize zero_len]) (pcells_one rfl) ?_))
    refine bodyPost_ret (results_cell_one rfl _ _ _ _ rfl (loadVar37 (Whole.row K21.out _) (psize zero_len))) rfl ?_
    exact taken_some hgl HV1.out (mkN_ok HOKV.out) (Txt.nil _ _ _ _) HR1.out HG1.out _
  · have K21 := Lib.hid (K2.out.grown hgr (by simp; omega))
    have HV : Hid (O = (some (mkN 0), [], true)) := Lib.hid (by have := HO.out; rw [ho] at this; exact this.symm)
    have HV1 : Hid (O.1 = some (mkN 0)) := Lib.hid (by rw [HV.out])
    have HR1 : Hid (Rd w1 g O.2.1 O.2.2) := Lib.hid (by rw [HV.out]; exact hrd)
    have HG1 := Lib.hid (grown_of HB2.out hgr)
    clear ho hrd hgr
    go_wp2_with (first
      | ((with_reducible show wpList _ _ _ ((⟨_, Op.build 28 _, _, _, _, _⟩ : Oper) :: _) _ _); refine wpList_part rfl _ rfl _ rfl _ (built_kn 1 0) ?_)
      | ((with_reducible show wpList _ _ _ ((⟨_, Op.store 28 _ _, _, _, _, _⟩ : Oper) :: _) _ _); refine wpList_store_row rfl _ (.tmp 4) (.tmp 16) rfl (w.heap.size + 1) _ rfl rfl 28 _ K21.out (by rw [psize zero_len]; exact info37) (by rw [psize zero_len, psize zero_len]) (pcells_one rfl) ?_))
    refine bodyPost_ret (results_cell_one rfl _ _ _ _ rfl (loadVar37 (Whole.row K21.out _) (psize zero_len))) rfl ?_
    exact taken_some hgl HV1.out (mkN_ok (in_small (by omega) (by omega))) (Txt.nil _ _ _ _) HR1.out HG1.out _

set_option maxHeartbeats 1000000 in
theorem take2 {w : World} {g : Nat} {l : List Int} {gave : Bool} {p : Prt} (x : Value) (h : Rd w g l gave) (hok : p.Ok) (hk : p.k = 2) (hl : l.length ≤ 1000000) :
    Calls Try.prog 30 #[.pointer (some ⟨g, 0, none⟩), .agg (cellsOf p x).toArray] w (Taken w g (takeOf p l gave)) := by
  obtain ⟨O, hO⟩ : ∃ O, takeOf p l gave = O := ⟨_, rfl⟩
  rw [hO]
  unfold takeOf at hO
  rw [if_neg (by omega), if_pos hk] at hO
  have HO := Lib.hid hO
  clear hO
  have hgl := h.lt
  have H := Lib.hid h
  have HOK := Lib.hid hok
  have e1 : (p.k == 1) = false := by rw [hk]; rfl
  have e2 : (p.k == 2) = true := by simp [hk]
  clear hk
  have c0 : (cellsOf p x).toArray[0]? = some (.int .i64 p.k) := rfl
  have c2 : (cellsOf p x).toArray[2]? = some (.int .i64 p.least) := rfl
  have c3 : (cellsOf p x).toArray[3]? = some (.int .i64 p.most) := rfl
  clear h hok
  generalize (cellsOf p x).toArray = P at *
  go_enter Try.func30, Try.ntmps30
  go_wp2_with fail
  rw [zeroP_lit]
  obtain ⟨hb2, k2, h2, hz2⟩ := take_head P (pcells 0 0 0 0 nilv zero32).toArray H.out
  generalize (w.alloc (.cells P 28)).alloc (.cells (pcells 0 0 0 0 nilv zero32).toArray 28) = w2 at *
  have HB2 := Lib.hid hb2
  have K2 := Lib.hid k2
  have HR := Lib.hid h2
  clear hb2 k2 h2 H
  refine (rtext_any (p.most.tmod 100000) HR.out (by omega)).mono ?_
  rintro e w1 (⟨t, r, v, ho, rfl, hown, hrd, hgr⟩ | ⟨ho, rfl, hrd, hgr⟩)
  · have K21 := Lib.hid (K2.out.grown hgr (by simp; omega))
    have HV : Hid (O = (some (mkB t), r, gave)) := Lib.hid (by have := HO.out; rw [ho] at this; exact this.symm)
    have HV1 : Hid (O.1 = some (mkB t)) := Lib.hid (by rw [HV.out])
    have HR1 : Hid (Rd w1 g O.2.1 O.2.2) := Lib.hid (by rw [HV.out]; exact hrd)
    obtain ⟨a1, c1, rfl, htx⟩ := Txt.own hown (txtOf_byt ho HR.out.byt)
    have HTX : Hid (Txt w1 (fun b => w.heap.size ≤ b ∧ b ≠ w.heap.size + 1) a1 t.length c1 t) := Lib.hid (htx.weak (fun b _ hb => ⟨by omega, by omega⟩))
    have HG1 := Lib.hid (grown_of HB2.out hgr)
    clear ho hrd hgr hown htx
    go_wp2_with (first
      | ((with_reducible show wpList _ _ _ ((⟨_, Op.build 28 _, _, _, _, _⟩ : Oper) :: _) _ _); refine wpList_part rfl _ rfl _ rfl _ (built_kb 2 _ _ _) ?_)
      | ((with_reducible show wpList _ _ _ ((⟨_, Op.store 28 _ _, _, _, _, _⟩ : Oper) :: _) _ _); refine wpList_store_row rfl _ (.tmp 4) (.tmp 24) rfl (w.heap.size + 1) _ rfl rfl 28 _ K21.out (by rw [psize zero_len]; exact info37) (by rw [psize zero_len, psize zero_len]) (pcells_one rfl) ?_))
    refine bodyPost_ret (results_cell_one rfl _ _ _ _ rfl (loadVar37 (Whole.row K21.out _) (psize zero_len))) rfl ?_
    exact taken_some hgl HV1.out (mkB_ok _) HTX.out HR1.out HG1.out _
  · have K21 := Lib.hid (K2.out.grown hgr (by simp; omega))
    have HV : Hid (O = (some (mkB []), [], true)) := Lib.hid (by have := HO.out; rw [ho] at this; exact this.symm)
    have HV1 : Hid (O.1 = some (mkB [])) := Lib.hid (by rw [HV.out])
    have HR1 : Hid (Rd w1 g O.2.1 O.2.2) := Lib.hid (by rw [HV.out]; exact hrd)
    have HG1 := Lib.hid (grown_of HB2.out hgr)
    clear ho hrd hgr
    go_wp2_with (first
      | ((with_reducible show wpList _ _ _ ((⟨_, Op.build 28 _, _, _, _, _⟩ : Oper) :: _) _ _); refine wpList_part rfl _ rfl _ rfl _ (built_kb 2 _ _ _) ?_)
      | ((with_reducible show wpList _ _ _ ((⟨_, Op.store 28 _ _, _, _, _, _⟩ : Oper) :: _) _ _); refine wpList_store_row rfl _ (.tmp 4) (.tmp 24) rfl (w.heap.size + 1) _ rfl rfl 28 _ K21.out (by rw [psize zero_len]; exact info37) (by rw [psize zero_len, psize zero_len]) (pcells_one rfl) ?_))
    refine bodyPost_ret (results_cell_one rfl _ _ _ _ rfl (loadVar37 (Whole.row K21.out _) (psize zero_len))) rfl ?_
    exact taken_some hgl HV1.out (mkB_ok _) (Txt.nil _ _ _ _) HR1.out HG1.out _

set_option maxHeartbeats 1000000 in
theorem take3 {w : World} {g : Nat} {l : List Int} {gave : Bool} {p : Prt} (x : Value) (h : Rd w g l gave) (hok : p.Ok) (hk : p.k = 3) :
    Calls Try.prog 30 #[.pointer (some ⟨g, 0, none⟩), .agg (cellsOf p x).toArray] w (Taken w g (takeOf p l gave)) := by
  obtain ⟨O, hO⟩ : ∃ O, takeOf p l gave = O := ⟨_, rfl⟩
  rw [hO]
  unfold takeOf at hO
  rw [if_neg (by omega), if_neg (by omega), if_pos hk] at hO
  have HO := Lib.hid hO
  clear hO
  have hgl := h.lt
  have H := Lib.hid h
  have HOK := Lib.hid hok
  have e1 : (p.k == 1) = false := by rw [hk]; rfl
  have e2 : (p.k == 2) = false := by rw [hk]; rfl
  have e3 : (p.k == 3) = true := by simp [hk]
  clear hk
  have c0 : (cellsOf p x).toArray[0]? = some (.int .i64 p.k) := rfl
  have c2 : (cellsOf p x).toArray[2]? = some (.int .i64 p.least) := rfl
  have c3 : (cellsOf p x).toArray[3]? = some (.int .i64 p.most) := rfl
  clear h hok
  generalize (cellsOf p x).toArray = P at *
  go_enter Try.func30, Try.ntmps30
  go_wp2_with fail
  rw [zeroP_lit]
  obtain ⟨hb2, k2, h2, hz2⟩ := take_head P (pcells 0 0 0 0 nilv zero32).toArray H.out
  generalize (w.alloc (.cells P 28)).alloc (.cells (pcells 0 0 0 0 nilv zero32).toArray 28) = w2 at *
  have HB2 := Lib.hid hb2
  have K2 := Lib.hid k2
  have HR := Lib.hid h2
  clear hb2 k2 h2 H
  refine (rhash_any HR.out).mono ?_
  rintro e w1 (⟨ho, rfl, hrd, hgr⟩ | ⟨ho, rfl, hrd, hgr⟩)
  · have K21 := Lib.hid (K2.out.grown hgr (by simp; omega))
    have HV : Hid (O = (some (mkH (l.take 32)), l.drop 32, gave)) := Lib.hid (by have := HO.out; rw [if_pos ho] at this; exact this.symm)
    have HV1 : Hid (O.1 = some (mkH (l.take 32))) := Lib.hid (by rw [HV.out])
    have HR1 : Hid (Rd w1 g O.2.1 O.2.2) := Lib.hid (by rw [HV.out]; exact hrd)
    have h32 : (l.take 32).length = 32 := by simp; omega
    have HBY := Lib.hid (Cd.byt_take HR.out.byt 32)
    generalize l.take 32 = t at *
    have HG1 := Lib.hid (grown_of HB2.out hgr)
    clear ho hrd hgr
    go_wp2_with (first
      | ((with_reducible show wpList _ _ _ ((⟨_, Op.build 28 _, _, _, _, _⟩ : Oper) :: _) _ _); refine wpList_part rfl _ rfl _ rfl _ (built_kh 3 t h32) ?_)
      | ((with_reducible show wpList _ _ _ ((⟨_, Op.store 28 _ _, _, _, _, _⟩ : Oper) :: _) _ _); refine wpList_store_row rfl _ (.tmp 4) (.tmp 29) rfl (w.heap.size + 1) _ rfl rfl 28 _ K21.out (by rw [psize h32]; exact info37) (by rw [psize h32, psize zero_len]) (pcells_one rfl) ?_))
    refine bodyPost_ret (results_cell_one rfl _ _ _ _ rfl (loadVar37 (Whole.row K21.out _) (psize h32))) rfl ?_
    exact taken_some hgl HV1.out (mkH_ok h32 HBY.out) (Txt.nil _ _ _ _) HR1.out HG1.out _
  · have K21 := Lib.hid (K2.out.grown hgr (by simp; omega))
    have HV : Hid (O = (some (mkH zero32), [], true)) := Lib.hid (by have := HO.out; rw [if_neg (by omega)] at this; exact this.symm)
    have HV1 : Hid (O.1 = some (mkH zero32)) := Lib.hid (by rw [HV.out])
    have HR1 : Hid (Rd w1 g O.2.1 O.2.2) := Lib.hid (by rw [HV.out]; exact hrd)
    have HG1 := Lib.hid (grown_of HB2.out hgr)
    clear ho hrd hgr
    go_wp2_with (first
      | ((with_reducible show wpList _ _ _ ((⟨_, Op.build 28 _, _, _, _, _⟩ : Oper) :: _) _ _); refine wpList_part rfl _ rfl _ rfl _ (built_kh 3 zero32 zero_len) ?_)
      | ((with_reducible show wpList _ _ _ ((⟨_, Op.store 28 _ _, _, _, _, _⟩ : Oper) :: _) _ _); refine wpList_store_row rfl _ (.tmp 4) (.tmp 29) rfl (w.heap.size + 1) _ rfl rfl 28 _ K21.out (by rw [psize zero_len]; exact info37) (by rw [psize zero_len, psize zero_len]) (pcells_one rfl) ?_))
    refine bodyPost_ret (results_cell_one rfl _ _ _ _ rfl (loadVar37 (Whole.row K21.out _) (psize zero_len))) rfl ?_
    exact taken_some hgl HV1.out (mkH_ok zero_len byt_zero) (Txt.nil _ _ _ _) HR1.out HG1.out _
set_option maxHeartbeats 1000000 in
theorem take0 {w : World} {g : Nat} {l : List Int} {gave : Bool} {p : Prt} (x : Value) (h : Rd w g l gave) (hok : p.Ok) (h1 : p.k ≠ 1) (h2 : p.k ≠ 2) (h3 : p.k ≠ 3) :
    Calls Try.prog 30 #[.pointer (some ⟨g, 0, none⟩), .agg (cellsOf p x).toArray] w (Taken w g (takeOf p l gave)) := by
  obtain ⟨O, hO⟩ : ∃ O, takeOf p l gave = O := ⟨_, rfl⟩
  rw [hO]
  unfold takeOf at hO
  rw [if_neg h1, if_neg h2, if_neg h3] at hO
  have HO := Lib.hid hO
  clear hO
  have hgl := h.lt
  have H := Lib.hid h
  have HOK := Lib.hid hok
  have e1 : (p.k == 1) = false := by simp [h1]
  have e2 : (p.k == 2) = false := by simp [h2]
  have e3 : (p.k == 3) = false := by simp [h3]
  clear h1 h2 h3
  have c0 : (cellsOf p x).toArray[0]? = some (.int .i64 p.k) := rfl
  have c2 : (cellsOf p x).toArray[2]? = some (.int .i64 p.least) := rfl
  have c3 : (cellsOf p x).toArray[3]? = some (.int .i64 p.most) := rfl
  clear h hok
  generalize (cellsOf p x).toArray = P at *
  go_enter Try.func30, Try.ntmps30
  have HK : Hid (∀ Z, Whole ((w.alloc (.cells P 28)).alloc (.cells Z 28)) (w.heap.size + 1) 28 Z) := Lib.hid (fun Z => (take_head P Z H.out).2.1)
  go_wp2_with (first
    | ((with_reducible show wpList _ _ _ ((⟨_, Op.build 28 _, _, _, _, _⟩ : Oper) :: _) _ _); rw [zeroP_lit]; refine wpList_part rfl _ rfl _ rfl _ built_none ?_)
    | ((with_reducible show wpList _ _ _ ((⟨_, Op.store 28 _ _, _, _, _, _⟩ : Oper) :: _) _ _); refine wpList_store_row rfl _ (.tmp 4) (.tmp 30) rfl (w.heap.size + 1) _ rfl rfl 28 _ (HK.out _) (by rw [psize zero_len]; exact info37) rfl (pcells_one rfl) ?_))
  refine bodyPost_ret (results_cell_one rfl _ _ _ _ rfl (loadVar37 (Whole.row (HK.out _) _) (psize zero_len))) rfl ?_
  obtain ⟨hb2, k2, h2, hz2⟩ := take_head P (pcells 0 0 0 0 nilv zero32).toArray H.out
  refine Or.inr ⟨by rw [← HO.out], rfl, ?_, grown_row (grown_of hb2 (World.grownBy.refl _ _)) (by omega) _⟩
  rw [← HO.out]
  exact h2.row (by omega) _

theorem take_any {w : World} {g : Nat} {l : List Int} {gave : Bool} {p : Prt} (x : Value) (h : Rd w g l gave) (hok : p.Ok) (hl : l.length ≤ 1000000) :
    Calls Try.prog 30 #[.pointer (some ⟨g, 0, none⟩), .agg (cellsOf p x).toArray] w (Taken w g (takeOf p l gave)) := by
  by_cases h1 : p.k = 1
  · exact take1 x h hok h1
  · by_cases h2 : p.k = 2
    · exact take2 x h hok h2 hl
    · by_cases h3 : p.k = 3
      · exact take3 x h hok h3
      · exact take0 x h hok h1 h2 h3
end Go.Proofs.Ytkmkccdihoaefaa
