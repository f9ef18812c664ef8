/-
  The walk of ImageWholes: an image is put piece by piece, is whole, and so it is behind a change just if its digest is the same.
-/
import Derived.Test.YtjpgepodkeccmaaDoorUr
namespace Go.Proofs.YtjpgepodkeccmaaDoor
open Go.RowKit
set_option linter.unusedVariables false
set_option linter.unusedSimpArgs false
set_option maxRecDepth 20000
theorem slice_to {a : Option Addr} {n c k : Nat} (h1 : k ≤ c) (w : World) : (Instr.slice 26 (.slice a n c) none (some (.int .i64 (k : Int))) none).run Tryd.prog w = .ok (.slice a k c) w := by
  have hb : (0 : Int) ≤ (k : Int) ∧ (k : Int) ≤ (c : Int) := by omega
  have e : (if c = 0 then a else Option.map (fun x => x.add (0 * 1)) a) = a := by
    split
    · rfl
    · cases a <;> simp [Addr.add]
  simp only [Instr.slice, Instr.sliceBounds, Instr.sliceBound, Sem.run_bind, Sem.run_pure, Result.andThen_ok, run_underlying Tryd.underlying26, asIntOf, if_pos hb, Sh.sz_u8, Int.toNat_natCast, e, Nat.sub_zero]
theorem own_at {w : World} {base e size n : Nat} {v : Value} {xs : List Value} {E s : Nat} (h : w.ownsRow base e size v n xs) (hb : v.ownBlock = some E ∨ v.ownBlock = some s) : ∃ Q cap, v = .slice (some ⟨Q, 0, none⟩) n cap ∧ (Q = E ∨ Q = s) := by
  rcases h.2 with ⟨rfl, _⟩ | ⟨g, cap, cur, rfl, _⟩
  · simp [Value.ownBlock] at hb
  · refine ⟨g, cap, rfl, ?_⟩
    simpa [Value.ownBlock] using hb
theorem own_lt {w : World} {base e size n : Nat} {Q cap : Nat} {xs : List Value} (h : w.ownsRow base e size (.slice (some ⟨Q, 0, none⟩) n cap) n xs) : base ≤ Q ∧ Q < w.heap.size := h.lt Q rfl
theorem slice_row {B E n c k : Nat} (h : (Value.slice (some ⟨E, 0, none⟩) n c).ownBlock = some k) (hB : B ≤ E) : B ≤ k := Nat.le_trans hB (Nat.le_of_eq (Option.some.inj h))
theorem slice_ne {F E n c : Nat} (h : F ≠ E) : some F ≠ (Value.slice (some ⟨E, 0, none⟩) n c).ownBlock := fun e => h (Option.some.inj e)
theorem built_232 (a e s : Int) (h0 h1 h2 h3 h4 h5 h6 h7 h8 h9 h10 h11 h12 h13 h14 h15 h16 h17 h18 h19 h20 h21 h22 h23 h24 h25 h26 h27 h28 h29 h30 h31 : Int) : Tryd.prog.built 41 [(0, .int .i64 a), (1, .int .i64 e), (2, .int .i64 s), (3, .agg (nums [h0, h1, h2, h3, h4, h5, h6, h7, h8, h9, h10, h11, h12, h13, h14, h15, h16, h17, h18, h19, h20, h21, h22, h23, h24, h25, h26, h27, h28, h29, h30, h31]).toArray)] = some (bc ⟨a, e, s, [h0, h1, h2, h3, h4, h5, h6, h7, h8, h9, h10, h11, h12, h13, h14, h15, h16, h17, h18, h19, h20, h21, h22, h23, h24, h25, h26, h27, h28, h29, h30, h31]⟩).toArray := by kernel_rfl
theorem built_aesw (a e s : Int) (h : List Int) (hh : h.length = 32) : Tryd.prog.built 41 [(0, .int .i64 a), (1, .int .i64 e), (2, .int .i64 s), (3, .agg (nums h).toArray)] = some (bc ⟨a, e, s, h⟩).toArray := by
  match h, hh with
  | [h0, h1, h2, h3, h4, h5, h6, h7, h8, h9, h10, h11, h12, h13, h14, h15, h16, h17, h18, h19, h20, h21, h22, h23, h24, h25, h26, h27, h28, h29, h30, h31], _ => exact built_232 a e s h0 h1 h2 h3 h4 h5 h6 h7 h8 h9 h10 h11 h12 h13 h14 h15 h16 h17 h18 h19 h20 h21 h22 h23 h24 h25 h26 h27 h28 h29 h30 h31
/-- Put one piece behind the other. -/
theorem put_two {C l : List Int} {o k : Nat} (h : o + l.length ≤ C.length) (hk : k ≤ l.length) : Dm.put (Dm.put C (o + k) (l.drop k)) o (l.take k) = Dm.put C o l := by
  have l1 : (l.drop k).length = l.length - k := by simp
  have l2 : (l.take k).length = k := by simp; omega
  have h1 : o + k + (l.drop k).length ≤ C.length := by rw [l1]; omega
  apply List.ext_getElem?
  intro i
  rw [Dm.put_get (by rw [Dm.put_len h1, l2]; omega), Dm.put_get h1, Dm.put_get h, l1, l2]
  by_cases e1 : o ≤ i ∧ i < o + k
  · rw [if_pos e1, if_pos (by omega), List.getElem?_take, if_pos (by omega)]
  · rw [if_neg e1]
    by_cases e2 : o + k ≤ i ∧ i < o + k + (l.length - k)
    · rw [if_pos e2, if_pos (by omega), List.getElem?_drop]
      congr 1; omega
    · rw [if_neg e2, if_neg (by omega)]
theorem put_set {C l : List Int} {o q : Nat} {x : Int} (h : o + l.length ≤ C.length) (hq : q < l.length) : Dm.put (Dm.put C o l) (o + q) [x] = Dm.put C o (l.set q x) := by
  apply List.ext_getElem?
  intro i
  have e0 : (l.set q x).length = l.length := List.length_set
  rw [Dm.put_get (by rw [Dm.put_len h]; simp; omega), Dm.put_get h, Dm.put_get (by rw [e0]; exact h), e0, List.getElem?_set]
  simp only [List.length_cons, List.length_nil]
  by_cases e1 : o + q ≤ i ∧ i < o + q + (0 + 1)
  · rw [if_pos e1, if_pos (by omega), if_pos (by omega), if_pos (by omega)]
    rw [show i - (o + q) = 0 by omega]
    rfl
  · rw [if_neg e1]
    by_cases e2 : o ≤ i ∧ i < o + l.length
    · rw [if_pos e2, if_pos e2, if_neg (by omega)]
    · rw [if_neg e2, if_neg e2]
theorem area_of {C l : List Int} {fr : Nat} (h : 64 * fr + l.length ≤ C.length) : area (Dm.put C (64 * fr) l) fr l.length = l := by
  apply List.ext_getElem?
  intro i
  rw [area_get, Dm.put_get h]
  by_cases e : i < l.length
  · rw [if_pos e, if_pos (by omega)]
    congr 1; omega
  · rw [if_neg e, List.getElem?_eq_none (by omega)]
theorem area_same {C D : List Int} {fr size : Nat} (h : ∀ m, fr ≤ m → Dm.blk C m = Dm.blk D m) : area C fr size = area D fr size := by
  apply List.ext_getElem?
  intro i
  rw [area_get, area_get]
  by_cases e : i < size
  · rw [if_pos e, if_pos e]
    have hm := h ((64 * fr + i) / 64) (by omega)
    have := congrArg (·[(64 * fr + i) % 64]?) hm
    unfold Dm.blk at this
    simp only [List.getElem?_take, List.getElem?_drop, if_pos (Nat.mod_lt (64 * fr + i) (show 64 > 0 by omega))] at this
    rw [show 64 * ((64 * fr + i) / 64) + (64 * fr + i) % 64 = 64 * fr + i by omega] at this
    exact this
  · rw [if_neg e, if_neg e]
theorem area_set {C : List Int} {fr n q : Nat} {x : Int} (h : 64 * fr + n ≤ C.length) (hq : q < n) : area (Dm.put C (64 * fr + q) [x]) fr n = (area C fr n).set q x := by
  have hl : (area C fr n).length = n := by unfold area; simp; omega
  apply List.ext_getElem?
  intro i
  rw [area_get, List.getElem?_set, hl, area_get, Dm.put_get (by simp; omega)]
  simp only [List.length_cons, List.length_nil]
  by_cases e : i < n
  · rw [if_pos e, if_pos e]
    by_cases e1 : q = i
    · rw [if_pos (by omega), if_pos e1, if_pos (by omega), show 64 * fr + i - (64 * fr + q) = 0 by omega]
      rfl
    · rw [if_neg (by omega), if_neg e1]
  · rw [if_neg e, if_neg e, if_neg (by omega)]
theorem blk_put {C b : List Int} {o m : Nat} (h : o + b.length ≤ C.length) (hm : 64 * m + 64 ≤ o) : Dm.blk (Dm.put C o b) m = Dm.blk C m := by
  apply List.ext_getElem?
  intro i
  unfold Dm.blk
  rw [List.getElem?_take, List.getElem?_take, List.getElem?_drop, List.getElem?_drop]
  by_cases e : i < 64
  · rw [if_pos e, if_pos e, Dm.put_get h, if_neg (by omega)]
  · rw [if_neg e, if_neg e]
theorem u8_infos : ∃ i, Tryd.prog.info? 5 = some i ∧ i.zero = some (.int .u8 0) ∧ i.size = 1 ∧ i.bytes = 1 := by
  have := u8_info
  cases hq : Tryd.prog.info? 5 with
  | none => rw [hq] at this; cases this
  | some i => rw [hq] at this; simp only [Option.map_some, Option.some.injEq, Prod.mk.injEq] at this; exact ⟨i, rfl, this.1, this.2.1, this.2.2⟩
def Ibt (ar len : Nat) (l : List Int) : Im.Bt := ⟨(ar : Int), 5, (len : Int), Sm.dig l⟩
theorem ibt_w (ar len : Nat) (l : List Int) : Im.W32 (Ibt ar len l) := ⟨dig_len _, byt_dig _⟩
theorem ibt_may {ar len : Nat} (l : List Int) (h1 : ar < 2) (h2 : 1 ≤ len) (h3 : len ≤ 600) : Im.May (Ibt ar len l) := ⟨by show ((ar : Int) = 0 ∨ (ar : Int) = 1); omega, by show (0 : Int) ≤ 5; omega, by show (5 : Int) ≤ _; omega, by show (1 : Int) ≤ (len : Int); omega, by show (len : Int) ≤ 65536; omega⟩
set_option maxHeartbeats 16000000 in
theorem wholes_walk (a0 : Option Addr) (len cap : Nat) (l : List Int) (cut ar at0 : Int) (w : World) (hR : Sh.Roots w) (ht : Txt w (· < w.heap.size) a0 len cap l) (hcut : -9223372036854775808 ≤ cut ∧ cut ≤ 9223372036854775807) (har : 0 ≤ ar ∧ ar < 256) (hat : -9223372036854775808 ≤ at0 ∧ at0 ≤ 9223372036854775807) :
    Calls Tryd.prog 8 #[.slice a0 len cap, .int .i64 cut, .int .u8 ar, .int .i64 at0] w fun e w' => e = .returned (.bool true) ∧ Below w.heap.size w w' := by
  obtain ⟨fsB, hun⟩ := und_bt
  have hzb := zero_bt
  obtain ⟨r0, rfl⟩ := Int.eq_ofNat_of_zero_le har.1
  have hr0 := har.2
  have HA := Lib.hid (awake_any hR)
  have HT := Lib.hid (And.intro ht (And.intro hR hR.two))
  clear hR ht har
  go_enter Tryd.func8, Tryd.ntmps8
  go_wp2_with fail
  refine HA.out.mono ?_
  rintro e w1 ⟨rfl, hb1⟩
  have H1 := Lib.hid hb1
  clear hb1 HA
  by_cases g0 : len = 0
  · subst g0
    go_wp2
    go_ret
    exact ⟨rfl, H1.out⟩
  have d0 : ((len : Int) == 0) = false := by simp; omega
  by_cases g1 : 600 < len
  · have d1 : decide ((600 : Int) < (len : Int)) = true := by simp; omega
    go_wp2
    go_ret
    exact ⟨rfl, H1.out⟩
  have d1 : decide ((600 : Int) < (len : Int)) = false := by simp; omega
  go_wp2_with fail
  refine (new_ok (n := 22) (by omega)).mono ?_
  rintro e w2 ⟨p, bb, mb, rfl, hd, hp, hbb, hmb, hb2⟩
  have HP : Hid ((w.heap.size ≤ p ∧ w.heap.size ≤ bb ∧ w.heap.size ≤ mb) ∧ (∀ x, x < w.heap.size → x ≠ p ∧ x ≠ bb ∧ x ≠ mb)) := Lib.hid (by have := H1.out.size; exact ⟨⟨by omega, by omega, by omega⟩, fun x hx => ⟨by omega, by omega, by omega⟩⟩)
  have H2 : Hid (Dk w2 p bb mb (fresh 22) 22 ∧ Below w.heap.size w w2) := Lib.hid ⟨hd, H1.out.trans (hb2.mono H1.out.size)⟩
  clear hd hp hbb hmb hb2 H1 d0 d1
  go_upto_if 43 with (fail)
  go_cut [1] (fun v wx => ∃ m : Nat, m ≤ 9223372036854775807 ∧ v = .int .i64 (m : Int) ∧ wx = w2)
  case first =>
    by_cases hneg : cut < 0
    · have e1 : IntKind.i64.wrap (cut + 1) = cut + 1 := IntWalk.i64_in _ (by omega)
      have e2 : IntKind.i64.wrap (-(cut + 1)) = -(cut + 1) := IntWalk.i64_in _ (by omega)
      go_wp2_with fail
      go_meet
      exact ⟨(-(cut + 1)).toNat, by omega, by rw [Int.toNat_of_nonneg (by omega)], rfl⟩
    · go_wp2_with fail
      go_meet
      exact ⟨cut.toNat, by omega, by rw [Int.toNat_of_nonneg (by omega)], rfl⟩
  case rest =>
  obtain ⟨c, hc, rfl, rfl⟩ := hcut
  go_upto_if 48 with (fail)
  go_cut [3] (fun v wx => ∃ m : Nat, m ≤ 9223372036854775807 ∧ v = .int .i64 (m : Int) ∧ wx = wc)
  case first =>
    by_cases hneg : at0 < 0
    · have e1 : IntKind.i64.wrap (at0 + 1) = at0 + 1 := IntWalk.i64_in _ (by omega)
      have e2 : IntKind.i64.wrap (-(at0 + 1)) = -(at0 + 1) := IntWalk.i64_in _ (by omega)
      go_wp2_with fail
      go_meet
      exact ⟨(-(at0 + 1)).toNat, by omega, by rw [Int.toNat_of_nonneg (by omega)], rfl⟩
    · go_wp2_with fail
      go_meet
      exact ⟨at0.toNat, by omega, by rw [Int.toNat_of_nonneg (by omega)], rfl⟩
  case rest =>
  obtain ⟨m, hm, rfl, rfl⟩ := hcut
  rename_i w2
  clear hat
  obtain ⟨k, hk⟩ : ∃ k, c % (len + 1) = k := ⟨_, rfl⟩
  have hkl : k ≤ len := by have := Nat.mod_lt c (show len + 1 > 0 by omega); omega
  have e3 : (c : Int).tmod ((len : Int) + 1) = (k : Int) := by rw [Int.tmod_eq_emod_of_nonneg (by omega), ← hk]; rfl
  obtain ⟨q, hq⟩ : ∃ q, m % len = q := ⟨_, rfl⟩
  have hql : q < len := by rw [← hq]; exact Nat.mod_lt _ (by omega)
  have e4 : (m : Int).tmod (len : Int) = (q : Int) := by rw [Int.tmod_eq_emod_of_nonneg (by omega), ← hq]; rfl
  obtain ⟨ra, hra⟩ : ∃ ra, r0 % 2 = ra := ⟨_, rfl⟩
  have hra2 : ra < 2 := by omega
  have e5 : (r0 : Int).tmod 2 = (ra : Int) := by rw [Int.tmod_eq_emod_of_nonneg (by omega), ← hra]; rfl
  obtain ⟨fr, hfr⟩ : ∃ fr, 2 + 10 * ra = fr := ⟨_, rfl⟩
  have e6 : 2 + 10 * (ra : Int) = (fr : Int) := by omega
  have hfr2 : 2 ≤ fr ∧ fr + 10 ≤ 22 := by omega
  have n1 : ¬ (len : Int) + 1 = 0 := by omega
  have n2 : ¬ (len : Int) = 0 := by omega
  clear hk hq hra hfr
  go_wp2_with fail
  have hwl := H2.out.1.cells.lt
  have hbl := H2.out.1.bytes.lt
  have hml := H2.out.1.map.lt
  have hb3 := below_alloc wc (.cells #[.slice a0 len cap] 26)
  have hw3 := Whole.new wc 26 #[.slice a0 len cap]
  have ht3 : Txt (wc.alloc (.cells #[.slice a0 len cap] 26)) (· < w.heap.size) a0 len cap l := HT.out.1.below (H2.out.2.trans (hb3.mono H2.out.2.size)) (fun _ _ h => h)
  have hpa := parts_one (S := fun _ => True) hw3 trivial (ht3.weak fun _ _ _ => trivial)
  have hd3 := H2.out.1.old hb3
  have hbw3 := H2.out.2.trans (hb3.mono H2.out.2.size)
  generalize wc.alloc (.cells #[.slice a0 len cap] 26) = w3 at *
  refine (Sh.sum_any hpa (HT.out.2.1.below hbw3 HT.out.2.2) (by have := HT.out.1.1; simp; omega) (by omega)).mono ?_
  rintro e w4 ⟨rfl, hb4⟩
  rw [show [l].flatten = l by simp]
  obtain ⟨dg, hdg⟩ : ∃ dg, Sm.dig l = dg := ⟨_, rfl⟩
  rw [hdg]
  have hbw4 := hbw3.trans (hb4.mono hbw3.size)
  obtain ⟨BT, hBT⟩ : ∃ BT, Ibt ra len l = BT := ⟨_, rfl⟩
  have hBW : Im.W32 BT := by rw [← hBT]; exact ibt_w ra len l
  have hBM : Im.May BT := by rw [← hBT]; exact ibt_may l hra2 (by omega) (by omega)
  have hBu := built_aesw (ra : Int) 5 (len : Int) (Sm.dig l) (dig_len l)
  rw [show (⟨(ra : Int), 5, (len : Int), Sm.dig l⟩ : Im.Bt) = Ibt ra len l from rfl, hBT, hdg] at hBu
  have hBs : BT.size = (len : Int) := by rw [← hBT]; rfl
  have hBd : BT.whole = Sm.dig l := by rw [← hBT]; rfl
  have HDG := Lib.hid hdg
  have hKC : KC (bc BT).toArray BT := ⟨rfl, hBW⟩
  obtain ⟨CB, hCB⟩ : ∃ CB, (bc BT).toArray = CB := ⟨_, rfl⟩
  rw [hCB] at hBu hKC
  have HB := Lib.hid (And.intro hKC (And.intro hBM (And.intro hBs (And.intro hBd hBu))))
  obtain ⟨w5, h5, k5, b5⟩ := boxedb w4 (D := CB)
  have hbe5 := hb4.trans (b5.mono hb4.size)
  have H5 : Hid ((w4.alloc (.cells zbt 41)).setRow w4.heap.size CB = w5 ∧ Dk w5 p bb mb (fresh 22) 22 ∧ Below w.heap.size w w5 ∧ Whole w5 w4.heap.size 41 CB) := Lib.hid ⟨h5, hd3.old hbe5, hbw3.trans (hbe5.mono hbw3.size), k5⟩
  have HP5 : Hid (w4.heap.size ∉ [p, bb, mb] ∧ w.heap.size ≤ w4.heap.size) := Lib.hid (by
    have := hd3.cells.lt; have := hd3.bytes.lt; have := hd3.map.lt; have := hb4.size; have := hbw4.size
    exact ⟨by simp; omega, by omega⟩)
  clear hb3 hw3 ht3 hpa hd3 hbw3 hb4 hbw4 hBT hBW hBM hBu hBs hBd hKC hCB h5 k5 b5 hbe5 hwl hbl hml H2 hdg e3 e5 e6 hra2 hcut hr0
  obtain ⟨a1, hs1, HT1⟩ : ∃ A, (∀ w, (Instr.slice 26 (.slice a0 len cap) (some (.int .i64 (k : Int))) none none).run Tryd.prog w = .ok (.slice A (len - k) (cap - k)) w) ∧ Hid (Txt w (· < w.heap.size) A (len - k) (cap - k) (l.drop k)) := ⟨_, Sh.slice_from hkl, Lib.hid (HT.out.1.drop k hkl)⟩
  have hkc : k ≤ cap := by have := HT.out.1.2.1; omega
  have hs2 : ∀ w, (Instr.slice 26 (.slice a0 len cap) none (some (.int .i64 (k : Int))) none).run Tryd.prog w = .ok (.slice a0 k cap) w := slice_to hkc
  have HT2 : Hid (Txt w (· < w.heap.size) a0 k cap (l.take k)) := Lib.hid (HT.out.1.take k hkl)
  go_wp2_with (first | ((with_reducible show wpList _ _ _ ((⟨_, Op.build 41 _, _, _, _, _⟩ : Oper) :: _) _ _); refine wpList_builtG (by rfl) _ rfl _ rfl CB HB.out.2.2.2.2 ?_) | ((with_reducible show wpList _ _ _ ((⟨_, Op.store 41 _ _, _, _, _, _⟩ : Oper) :: _) _ _); refine wpList_store_row rfl 41 (.tmp 14) (.tmp 70) rfl w4.heap.size CB rfl rfl 41 zbt (Whole.new w4 _ _) (KC.info HB.out.1) (Eq.trans (b := 35) rfl (KC.size HB.out.1).symm) (KC.all HB.out.1) ?_; rw [H5.out.1]) | fail)
  have hl1 : l.length = len := HT.out.1.1
  have HFL : Hid ((Dm.now (fresh 22)).length = 64 * 22) := Lib.hid (Dm.now_get H5.out.2.1.ok).1
  refine (put_ok (fr := fr) (room := 10) (at_ := k) H5.out.2.1 rfl (by omega) (by omega) (HT1.out.below H5.out.2.2.1 (fun _ _ h => h)) HP.out.2).mono ?_
  rintro e w6 ⟨rfl, A6, hd6, hdn6, hn6, ho6⟩
  have H6 : Hid (Dk w6 p bb mb A6 22 ∧ A6.down = false ∧ Dm.now A6 = Dm.put (Dm.now (fresh 22)) (64 * fr + k) (l.drop k) ∧ Below w.heap.size w w6 ∧ Whole w6 w4.heap.size 41 CB) := Lib.hid ⟨hd6, hdn6, hn6, ho6.aft H5.out.2.2.1 (by have := HP.out.1; intro x hx; simp at hx; omega), H5.out.2.2.2.keep (ho6.block _ H5.out.2.2.2.lt HP5.out.1)⟩
  clear hd6 hdn6 hn6 ho6
  go_wp2_with fail
  refine (put_ok (fr := fr) (room := 10) (at_ := 0) H6.out.1 H6.out.2.1 (by omega) (by omega) (HT2.out.below H6.out.2.2.2.1 (fun _ _ h => h)) HP.out.2).mono ?_
  rintro e w7 ⟨rfl, A7, hd7, hdn7, hn7, ho7⟩
  have hn7' : Dm.now A7 = Dm.put (Dm.now (fresh 22)) (64 * fr) l := by
    rw [hn7, H6.out.2.2.1, Nat.add_zero, put_two (by rw [HFL.out]; omega) (by omega)]
  have H7 : Hid (Dk w7 p bb mb A7 22 ∧ A7.down = false ∧ Dm.now A7 = Dm.put (Dm.now (fresh 22)) (64 * fr) l ∧ Below w.heap.size w w7 ∧ Whole w7 w4.heap.size 41 CB) := Lib.hid ⟨hd7, hdn7, hn7', ho7.aft H6.out.2.2.2.1 (by have := HP.out.1; intro x hx; simp at hx; omega), H6.out.2.2.2.2.keep (ho7.block _ H6.out.2.2.2.2.lt HP5.out.1)⟩
  have HPR : Hid (Im.Pr (Dm.read A7) 0 Im.Z) := Lib.hid (by
    have hr : ∀ m, m < 2 → Dm.read A7 m = z64 := fun m hm => by
      rw [← (Dm.now_get H7.out.1.ok).2.2, H7.out.2.2.1, blk_put (by rw [HFL.out]; omega) (by omega), (Dm.now_get H5.out.2.1.ok).2.2, read_fresh (by omega)]
    exact Or.inl ⟨rfl, rfl, hr 0 (by omega), hr 1 (by omega)⟩)
  clear hd7 hdn7 hn7 hn7' ho7 hs1 hs2 hkc HT1 HT2
  go_wp2_with (first | ((with_reducible show wpList _ _ _ ((⟨_, Op.load 41 _, _, _, _, _⟩ : Oper) :: _) _ _); refine wpList_load_row rfl 41 (.tmp 14) rfl w4.heap.size rfl 41 CB (0, 0) _ H7.out.2.2.2.2 hun rfl (KC.info HB.out.1) ?_) | fail)
  refine (ipoint_pr H7.out.1 H7.out.2.1 (by omega) HPR.out (by omega) HB.out.1 HB.out.2.1).mono ?_
  rintro e w8 ⟨rfl, A8, hd8, hdn8, hpr8, hrd8, ho8⟩
  have har : area (Dm.now A8) fr len = l := by
    rw [area_same (D := Dm.now A7) (fun m hm => by rw [(Dm.now_get hd8.ok).2.2, (Dm.now_get H7.out.1.ok).2.2, hrd8, if_neg (by omega)]), H7.out.2.2.1, ← hl1]
    exact area_of (by rw [HFL.out]; omega)
  have H8 : Hid (Dk w8 p bb mb A8 22 ∧ A8.down = false ∧ Im.Pr (Dm.read A8) (0 + 1) BT ∧ area (Dm.now A8) fr len = l ∧ Below w.heap.size w w8 ∧ Whole w8 w4.heap.size 41 CB) := Lib.hid ⟨hd8, hdn8, hpr8, har, ho8.aft H7.out.2.2.2.1 (by have := HP.out.1; intro x hx; simp at hx; omega), H7.out.2.2.2.2.keep (ho8.block _ H7.out.2.2.2.2.lt HP5.out.1)⟩
  clear hd8 hdn8 hpr8 hrd8 ho8 har
  go_wp2_with (first | ((with_reducible show wpList _ _ _ ((⟨_, Op.load 41 _, _, _, _, _⟩ : Oper) :: _) _ _); refine wpList_load_row rfl 41 (.tmp 14) rfl w4.heap.size rfl 41 CB (0, 0) _ H8.out.2.2.2.2.2 hun rfl (KC.info HB.out.1) ?_) | fail)
  refine (iwhole_ok (fr := fr) (room := 10) (size := len) H8.out.1 (HT.out.2.1.below H8.out.2.2.2.2.1 HT.out.2.2) H8.out.2.1 (by omega) (by omega) HB.out.1 HB.out.2.2.1).mono ?_
  rintro e w9 ⟨rfl, hb9⟩
  rw [H8.out.2.2.2.1, HB.out.2.2.2.1, if_pos rfl]
  have H9 : Hid (Dk w9 p bb mb A8 22 ∧ Below w.heap.size w w9 ∧ Whole w9 w4.heap.size 41 CB) := Lib.hid ⟨H8.out.1.old hb9, H8.out.2.2.2.2.1.trans (hb9.mono H8.out.2.2.2.2.1.size), H8.out.2.2.2.2.2.keep (hb9.block _ H8.out.2.2.2.2.2.lt)⟩
  clear hb9
  obtain ⟨gb, off, rfl, hgw, hgb, hcl⟩ := (HT.out.1.below H9.out.2.1 (fun _ _ h => h)).cell hql
  obtain ⟨v, hv⟩ : ∃ v, l.getD q 0 = v := ⟨_, rfl⟩
  have HV : Hid (l.getD q 0 = v ∧ 0 ≤ v ∧ v < 256) := Lib.hid ⟨hv, by rw [← hv]; exact HT.out.1.byte q⟩
  rw [hv] at hcl
  clear hv
  go_upto_region 20 with fail
  obtain ⟨x, hx⟩ : ∃ x, bits .xor .u8 v 1 = x := ⟨_, rfl⟩
  have hxx := xor8 HV.out.2 (y := 1) ⟨by omega, by omega⟩
  have HX : Hid (bits .xor .u8 v 1 = x ∧ (0 ≤ x ∧ x < 256) ∧ x ≠ v) := Lib.hid ⟨hx, by rw [← hx]; exact hxx.1, by rw [← hx]; exact hxx.2.2 (by omega)⟩
  clear hxx
  have H10' : Hid (Dk w9.drew p bb mb A8 22 ∧ Below w.heap.size w w9.drew ∧ Whole w9.drew w4.heap.size 41 CB ∧ gb < w9.drew.heap.size ∧ w9.drew.cell? ⟨gb, off + q, none⟩ = some (.int .u8 v)) := Lib.hid ⟨H9.out.1.keep rfl rfl rfl, ⟨H9.out.2.1.os, H9.out.2.1.tape, H9.out.2.1.output, H9.out.2.1.size, H9.out.2.1.block⟩, H9.out.2.2, hgb, hcl⟩
  have HG : Hid (gb < w.heap.size ∧ gb ≠ p ∧ gb ≠ bb ∧ gb ≠ mb) := Lib.hid ⟨hgw, HP.out.2 gb hgw⟩
  clear hcl hgb hgw H9
  refine wp_region_held_drew (S := fun z => z.cell? ⟨gb, off + q, none⟩ = some (.int .u8 v)) (by kernel_rfl) H10'.out.2.2.2.2 (fun hHeld => ?_)
  generalize w9.drew = w10 at *
  refine wpAnyH_take (i := 0) (v := .pointer (some ⟨p, 0, none⟩)) rfl (by kernel_rfl) (by kernel_rfl) (by kernel_rfl) (fun _ _ _ h => h) (Or.inl ⟨by rfl, (by intro w hSw; (try dsimp only at hSw); go_simp)⟩) (by assumption) ?_
  try simp only [Act.put, List.getElem_toArray, List.getElem_cons_zero, List.getElem_cons_succ, List.setIfInBounds_toArray, List.set_cons_zero, List.set_cons_succ]
  refine wpAnyH_take (i := 1) (v := .int .i64 (fr : Int)) rfl (by kernel_rfl) (by kernel_rfl) (by kernel_rfl) (fun _ _ _ h => h) (Or.inl ⟨by rfl, (by intro w hSw; (try dsimp only at hSw); go_simp)⟩) (by assumption) ?_
  try simp only [Act.put, List.getElem_toArray, List.getElem_cons_zero, List.getElem_cons_succ, List.setIfInBounds_toArray, List.set_cons_zero, List.set_cons_succ]
  refine wpAnyH_take (i := 2) (v := .int .i64 (m : Int)) rfl (by kernel_rfl) (by kernel_rfl) (by kernel_rfl) (fun _ _ _ h => h) (Or.inl ⟨by rfl, (by intro w hSw; (try dsimp only at hSw); go_simp)⟩) (by assumption) ?_
  try simp only [Act.put, List.getElem_toArray, List.getElem_cons_zero, List.getElem_cons_succ, List.setIfInBounds_toArray, List.set_cons_zero, List.set_cons_succ]
  refine wpAnyH_take (i := 3) (v := .slice (some ⟨gb, off, none⟩) len cap) rfl (by kernel_rfl) (by kernel_rfl) (by kernel_rfl) (fun _ _ _ h => h) (Or.inl ⟨by rfl, (by intro w hSw; (try dsimp only at hSw); go_simp)⟩) (by assumption) ?_
  try simp only [Act.put, List.getElem_toArray, List.getElem_cons_zero, List.getElem_cons_succ, List.setIfInBounds_toArray, List.set_cons_zero, List.set_cons_succ]
  refine wpAnyH_take (i := 4) (v := .int .i64 (len : Int)) rfl (by kernel_rfl) (by kernel_rfl) (by kernel_rfl) (fun _ _ _ h => h) (Or.inl ⟨by rfl, (by intro w hSw; (try dsimp only at hSw); go_simp)⟩) (by assumption) ?_
  try simp only [Act.put, List.getElem_toArray, List.getElem_cons_zero, List.getElem_cons_succ, List.setIfInBounds_toArray, List.set_cons_zero, List.set_cons_succ]
  refine wpAnyH_take (i := 5) (v := .int .i64 (q : Int)) rfl (by kernel_rfl) (by kernel_rfl) (by kernel_rfl) (fun _ _ _ h => h) (Or.inl ⟨by rfl, (by intro w hSw; (try dsimp only at hSw); go_simp)⟩) (by assumption) ?_
  try simp only [Act.put, List.getElem_toArray, List.getElem_cons_zero, List.getElem_cons_succ, List.setIfInBounds_toArray, List.set_cons_zero, List.set_cons_succ]
  refine wpAnyH_take (i := 6) (v := .slice (some ⟨gb, off, none⟩) len cap) rfl (by kernel_rfl) (by kernel_rfl) (by kernel_rfl) (fun _ _ _ h => h) (Or.inl ⟨by rfl, (by intro w hSw; (try dsimp only at hSw); go_simp)⟩) (by assumption) ?_
  try simp only [Act.put, List.getElem_toArray, List.getElem_cons_zero, List.getElem_cons_succ, List.setIfInBounds_toArray, List.set_cons_zero, List.set_cons_succ]
  refine wpAnyH_take (i := 7) (v := .int .i64 (m : Int)) rfl (by kernel_rfl) (by kernel_rfl) (by kernel_rfl) (fun _ _ _ h => h) (Or.inl ⟨by rfl, (by intro w hSw; (try dsimp only at hSw); go_simp)⟩) (by assumption) ?_
  try simp only [Act.put, List.getElem_toArray, List.getElem_cons_zero, List.getElem_cons_succ, List.setIfInBounds_toArray, List.set_cons_zero, List.set_cons_succ]
  refine wpAnyH_take (i := 8) (v := .slice (some ⟨gb, off, none⟩) len cap) rfl (by kernel_rfl) (by kernel_rfl) (by kernel_rfl) (fun _ _ _ h => h) (Or.inl ⟨by rfl, (by intro w hSw; (try dsimp only at hSw); go_simp)⟩) (by assumption) ?_
  try simp only [Act.put, List.getElem_toArray, List.getElem_cons_zero, List.getElem_cons_succ, List.setIfInBounds_toArray, List.set_cons_zero, List.set_cons_succ]
  refine wpAnyH_take (i := 9) (v := .int .i64 (len : Int)) rfl (by kernel_rfl) (by kernel_rfl) (by kernel_rfl) (fun _ _ _ h => h) (Or.inl ⟨by rfl, (by intro w hSw; (try dsimp only at hSw); go_simp)⟩) (by assumption) ?_
  try simp only [Act.put, List.getElem_toArray, List.getElem_cons_zero, List.getElem_cons_succ, List.setIfInBounds_toArray, List.set_cons_zero, List.set_cons_succ]
  refine wpAnyH_take (i := 10) (v := .int .i64 (q : Int)) rfl (by kernel_rfl) (by kernel_rfl) (by kernel_rfl) (fun _ _ _ h => h) (Or.inl ⟨by rfl, (by intro w hSw; (try dsimp only at hSw); go_simp)⟩) (by assumption) ?_
  try simp only [Act.put, List.getElem_toArray, List.getElem_cons_zero, List.getElem_cons_succ, List.setIfInBounds_toArray, List.set_cons_zero, List.set_cons_succ]
  refine wpAnyH_take (i := 11) (v := .pointer (some ⟨gb, off + q, none⟩)) rfl (by kernel_rfl) (by kernel_rfl) (by kernel_rfl) (fun _ _ _ h => h) (Or.inl ⟨by rfl, (by intro w hSw; (try dsimp only at hSw); go_simp)⟩) (by assumption) ?_
  try simp only [Act.put, List.getElem_toArray, List.getElem_cons_zero, List.getElem_cons_succ, List.setIfInBounds_toArray, List.set_cons_zero, List.set_cons_succ]
  refine wpAnyH_take (i := 12) (v := .int .u8 v) rfl (by kernel_rfl) (by kernel_rfl) (by kernel_rfl) (fun _ _ _ h => h) (Or.inl ⟨by rfl, (by intro w hSw; (try dsimp only at hSw); go_simp)⟩) (by assumption) ?_
  try simp only [Act.put, List.getElem_toArray, List.getElem_cons_zero, List.getElem_cons_succ, List.setIfInBounds_toArray, List.set_cons_zero, List.set_cons_succ]
  refine wpAnyH_take (i := 13) (v := .int .u8 x) rfl (by kernel_rfl) (by kernel_rfl) (by kernel_rfl) (fun _ _ _ h => h) (Or.inl ⟨by rfl, (by intro w hSw; (try dsimp only at hSw); go_simp)⟩) (by assumption) ?_
  try simp only [Act.put, List.getElem_toArray, List.getElem_cons_zero, List.getElem_cons_succ, List.setIfInBounds_toArray, List.set_cons_zero, List.set_cons_succ]
  refine wpAnyH_ready (rs := [14]) (by kernel_rfl) (by simp) (AllReadyH.cons rfl (fun K hK => ?_) AllReadyH.nil)
  try simp only [List.getElem_toArray, List.getElem_cons_zero, List.getElem_cons_succ]
  go_simp
  have hb11 := below_alloc w10 (.cells #[.int .u8 x] 5)
  have ht11 : Txt (w10.alloc (.cells #[.int .u8 x] 5)) (· = w10.heap.size) (some ⟨w10.heap.size, 0, none⟩) 1 1 [x] := txt_new (l := [x]) (byt_cons HX.out.2.1.1 HX.out.2.1.2 byt_nil)
  have hS11 : (w10.alloc (.cells #[.int .u8 x] 5)).cell? ⟨gb, off + q, none⟩ = some (.int .u8 v) := (World.cell?_of_block (hb11.block gb H10'.out.2.2.2.1)).trans H10'.out.2.2.2.2
  refine hK.out _ _ hS11 (fun hHeld => ?_)
  clear hK K
  try simp only [Act.put, List.getElem_toArray, List.getElem_cons_zero, List.getElem_cons_succ, List.setIfInBounds_toArray, List.set_cons_zero, List.set_cons_succ]
  have H11 : Hid (Dk (w10.alloc (.cells #[.int .u8 x] 5)) p bb mb A8 22 ∧ Below w.heap.size w (w10.alloc (.cells #[.int .u8 x] 5)) ∧ Whole (w10.alloc (.cells #[.int .u8 x] 5)) w4.heap.size 41 CB ∧ Txt (w10.alloc (.cells #[.int .u8 x] 5)) (fun y => y ≠ p ∧ y ≠ bb ∧ y ≠ mb) (some ⟨w10.heap.size, 0, none⟩) 1 1 [x] ∧ gb < (w10.alloc (.cells #[.int .u8 x] 5)).heap.size) := Lib.hid ⟨H10'.out.1.old hb11, H10'.out.2.1.trans (hb11.mono H10'.out.2.1.size), H10'.out.2.2.1.alloc _, ht11.weak (fun y _ hy => by have h1 := H10'.out.1.cells.lt; have h2 := H10'.out.1.bytes.lt; have h3 := H10'.out.1.map.lt; have hy' : y = w10.heap.size := hy; omega), by have := H10'.out.2.2.2.1; simp; omega⟩
  clear hb11 ht11
  generalize w10.alloc (.cells #[.int .u8 x] 5) = w11 at *
  refine wpAnyH_ready (rs := [15]) (by kernel_rfl) (by simp) (AllReadyH.cons rfl (fun K hK => ?_) AllReadyH.nil)
  try simp only [List.getElem_toArray, List.getElem_cons_zero, List.getElem_cons_succ]
  go_simp
  go_at_call 15
  refine (put_ok (fr := fr) (room := 10) (at_ := q) H11.out.1 H8.out.2.1 (by omega) (by omega) H11.out.2.2.2.1 (fun _ h => h)).mono ?_
  rintro e w12 ⟨rfl, A12, hd12, hdn12, hn12, ho12⟩
  have hS12 : w12.cell? ⟨gb, off + q, none⟩ = some (.int .u8 v) := (World.cell?_of_block (ho12.block gb H11.out.2.2.2.2 (by have := HG.out.2; simp; omega))).trans hS11
  clear hS11
  go_wp2_with fail
  refine hK.out _ _ hS12 (fun hHeld => ?_)
  clear hK K
  try simp only [Act.put, List.getElem_toArray, List.getElem_cons_zero, List.getElem_cons_succ, List.setIfInBounds_toArray, List.set_cons_zero, List.set_cons_succ]
  refine wpAnyH_ready (rs := [16]) (by kernel_rfl) (by simp) (AllReadyH.cons rfl (fun K hK => ?_) AllReadyH.nil)
  try simp only [List.getElem_toArray, List.getElem_cons_zero, List.getElem_cons_succ]
  go_simp
  refine hK.out _ _ hS12 (fun hHeld => ?_)
  clear hK K hHeld hS12
  try simp only [Act.put, List.getElem_toArray, List.getElem_cons_zero, List.getElem_cons_succ, List.setIfInBounds_toArray, List.set_cons_zero, List.set_cons_succ]
  refine wpAnyH_done (by kernel_rfl) ?_ _
  have hfit : 64 * fr + len ≤ (Dm.now A8).length := by rw [(Dm.now_get H8.out.1.ok).1]; omega
  have har12 : area (Dm.now A12) fr len = l.set q x := by rw [hn12, area_set hfit hql, H8.out.2.2.2.1]
  have hpr12 : Im.Pr (Dm.read A12) (0 + 1) BT := H8.out.2.2.1.congr (fun m hm => by
    rw [← (Dm.now_get hd12.ok).2.2, hn12, blk_put (by simp; omega) (by omega), (Dm.now_get H8.out.1.ok).2.2])
  have H12 : Hid (Dk w12 p bb mb A12 22 ∧ A12.down = false ∧ Im.Pr (Dm.read A12) (0 + 1) BT ∧ area (Dm.now A12) fr len = l.set q x ∧ Below w.heap.size w w12 ∧ Whole w12 w4.heap.size 41 CB) := Lib.hid ⟨hd12, hdn12, hpr12, har12, ho12.aft H11.out.2.1 (by have := HP.out.1; intro x hx; simp at hx; omega), H11.out.2.2.1.keep (ho12.block _ H11.out.2.2.1.lt HP5.out.1)⟩
  clear hfit har12 hpr12 hd12 hdn12 hn12 ho12
  go_wp2_with fail
  refine (istart_pr H12.out.1 H12.out.2.1 (by omega) H12.out.2.2.1 (by omega)).mono ?_
  rintro e w13 ⟨D13, rfl, hD13, hb13⟩
  obtain ⟨w14, h14, k14, b14⟩ := boxedb w13 (D := D13)
  have hbe14 := hb13.trans (b14.mono hb13.size)
  have H14 : Hid ((w13.alloc (.cells zbt 41)).setRow w13.heap.size D13 = w14 ∧ Dk w14 p bb mb A12 22 ∧ Below w.heap.size w w14 ∧ Whole w14 w4.heap.size 41 CB ∧ Whole w14 w13.heap.size 41 D13 ∧ KC D13 BT) := Lib.hid ⟨h14, H12.out.1.old hbe14, H12.out.2.2.2.2.1.trans (hbe14.mono H12.out.2.2.2.2.1.size), H12.out.2.2.2.2.2.keep (hbe14.block _ H12.out.2.2.2.2.2.lt), k14, hD13⟩
  clear h14 k14 b14 hbe14 hb13 hD13
  obtain ⟨i0, HI0⟩ := u8_infos
  have HI := Lib.hid HI0
  clear HI0
  go_wp2_with (first | ((with_reducible show wpList _ _ _ ((⟨_, Op.store 41 _ _, _, _, _, _⟩ : Oper) :: _) _ _); refine wpList_store_row rfl 41 (.tmp 20) (.tmp 110) rfl w13.heap.size D13 rfl rfl 41 zbt (Whole.new w13 _ _) (KC.info H14.out.2.2.2.2.2) (Eq.trans (b := 35) rfl (KC.size H14.out.2.2.2.2.2).symm) (KC.all H14.out.2.2.2.2.2) ?_; rw [H14.out.1]) | (at_builtin; refine wpList_append_txt _ rfl (.tmp 113) (.tmp 114) 26 rfl w14.heap.size 5 i0 (.int .u8 0) 1 Tryd.underlying26 HI.out.1 HI.out.2.1 HI.out.2.2.1 HI.out.2.2.2 rfl _ 0 [] rfl ?c1 (· < w.heap.size) (some ⟨gb, off, none⟩) len cap l rfl ?c2 ?c3 ?c4 ?c5 ?_))
  case c1 => exact World.ownsRow_lit w14 #[] 0 (Nat.le_refl _) (by unfold maxLen; omega) rfl
  case c2 => exact (HT.out.1.below H14.out.2.2.1 (fun _ _ h => h)).keep (by simp) fun b hb _ => Below.heap_alloc _ _ _ hb
  case c3 => unfold maxLen; omega
  case c4 => omega
  case c5 => simp
  intro v15 w15 hown hg hq
  have hbe15 : Below w14.heap.size w14 w15 := (below_alloc w14 _).grown hg (by simp) (fun k hk => slice_row hk (Nat.le_refl _))
  have HO0 : Hid (w15.ownsRow w14.heap.size 5 1 v15 len (nums l)) := Lib.hid hown
  obtain ⟨Q, cap', rfl, _⟩ := own_at HO0.out hq
  have gQ : w14.heap.size ≤ Q := (own_lt HO0.out).1
  have ct : w15.cell? ⟨Q, q, none⟩ = some (.int .u8 v) := (HO0.out.cellAt q (by omega)).trans (by rw [nums_get _ _ (by omega), HV.out.1])
  have fw : w15.frozen? ⟨Q, q, none⟩ = false := HO0.out.frozenAt q
  have HB15 := Lib.hid (And.intro hbe15 gQ)
  clear hown hg hq hbe15 gQ
  go_wp2_with fail
  go_still_tail 14, (by kernel_rfl)
  change wpList _ _ _ _ _ w15.drew
  go_wp2_with fail
  have hst := (HO0.out.stored q (.int .u8 x)).1
  rw [show (nums l).set q (.int .u8 x) = nums (l.set q x) by simp [nums, List.map_set]] at hst
  have hbl : Byt (l.set q x) := fun z hz => by
    rcases List.mem_or_eq_of_mem_set hz with h | h
    · exact HT.out.1.2.2.1 z h
    · rw [h]; exact HX.out.2.1
  have hbe16 : Below w14.heap.size w14 (w15.setCell ⟨Q, q, none⟩ (.int .u8 x)).drew := (HB15.out.1.setCell (show w14.heap.size ≤ (⟨Q, q, none⟩ : Addr).block from HB15.out.2) _).drew
  have ht16 : Txt (w15.setCell ⟨Q, q, none⟩ (.int .u8 x)).drew (fun _ => True) (some ⟨Q, 0, none⟩) len cap' (l.set q x) := by
    obtain ⟨a, c, e, ht⟩ := Txt.own hst hbl
    injection e with e1 _ e3
    subst e1 e3
    exact (show Txt (w15.setCell ⟨Q, q, none⟩ (.int .u8 x)).drew _ _ _ _ _ from ht).weak fun _ _ _ => trivial
  clear hst ct fw HO0
  generalize (w15.setCell ⟨Q, q, none⟩ (.int .u8 x)).drew = w16 at *
  obtain ⟨wh, hwh⟩ : ∃ wh, BT.whole = wh := ⟨_, rfl⟩
  have hwl : wh.length = 32 := by rw [← hwh]; exact HB.out.1.2.1
  obtain ⟨d, hdg⟩ : ∃ d, Sm.dig (l.set q x) = d := ⟨_, rfl⟩
  have hdd : d.length = 32 := by rw [← hdg]; exact dig_len _
  obtain ⟨y, hy⟩ : ∃ y, decide (d = wh) = y := ⟨_, rfl⟩
  have HE : Hid ((if d = wh then (0 : Int) else 80) = if y then 0 else 80) := Lib.hid (by
    rw [← hy]
    by_cases e : d = wh
    · rw [if_pos e, decide_eq_true e]; rfl
    · rw [if_neg e, decide_eq_false e]; rfl)
  have HEQ : Hid (∀ w : World, (Op.equalIn 10000 39 (.agg (nums d).toArray) (.agg (nums wh).toArray)).run Tryd.prog w = .ok y w) := Lib.hid fun w => by
    have h := Sh.equal32 9999 (fun a b w => run_equalIn_int w 9998 5 .u8 .u8 a b Tryd.underlying5) d wh hdd hwl w
    rw [h, hy]
  have HL32 : Hid ((nums wh).length = 32) := Lib.hid (by rw [nums_len]; exact hwl)
  have H16 : Hid (Dk w16.drew p bb mb A12 22 ∧ Below w.heap.size w w16.drew ∧ Whole w16.drew w4.heap.size 41 CB ∧ Whole w16.drew w13.heap.size 41 D13 ∧ Txt w16.drew (fun _ => True) (some ⟨Q, 0, none⟩) len cap' (l.set q x) ∧ w16.drew.rangeAt w4.heap.size 3 (nums wh)) := Lib.hid (by
    have k1 := H14.out.2.1.old hbe16
    have k2 := H14.out.2.2.1.trans (hbe16.mono H14.out.2.2.1.size)
    have k3 := H14.out.2.2.2.1.keep (hbe16.block _ H14.out.2.2.2.1.lt)
    have k4 := H14.out.2.2.2.2.1.keep (hbe16.block _ H14.out.2.2.2.2.1.lt)
    have k5 := range_bt (show Whole w16.drew w4.heap.size 41 CB from k3) HB.out.1
    rw [hwh] at k5
    exact ⟨k1.keep rfl rfl rfl, ⟨k2.os, k2.tape, k2.output, k2.size, k2.block⟩, k3, k4, ht16, k5⟩)
  have HD := Lib.hid (And.intro hwh hdg)
  clear hbe16 ht16 hbl hwh hdg hdd hwl hy HB15
  refine wp_region_held_drew (S := fun v => v.rangeAt w4.heap.size 3 (nums wh)) (by kernel_rfl) H16.out.2.2.2.2.2 (fun hHeld => ?_)
  generalize w16.drew = w17 at *
  refine wpAnyH_take (i := 0) (v := .slice (some ⟨Q, 0, none⟩) len cap') rfl (by kernel_rfl) (by kernel_rfl) (by kernel_rfl) (fun _ _ _ h => h) (Or.inl ⟨by rfl, (by intro w hSw; (try dsimp only at hSw); go_simp)⟩) (by assumption) ?_
  try simp only [Act.put, List.getElem_toArray, List.getElem_cons_zero, List.getElem_cons_succ, List.setIfInBounds_toArray, List.set_cons_zero, List.set_cons_succ]
  refine wpAnyH_take (i := 3) (v := .pointer (some ⟨w4.heap.size, 3, none⟩)) rfl (by kernel_rfl) (by kernel_rfl) (by kernel_rfl) (fun _ _ _ h => h) (Or.inl ⟨by rfl, (by intro w hSw; (try dsimp only at hSw); go_simp)⟩) (by assumption) ?_
  try simp only [Act.put, List.getElem_toArray, List.getElem_cons_zero, List.getElem_cons_succ, List.setIfInBounds_toArray, List.set_cons_zero, List.set_cons_succ]
  refine wpAnyH_take (i := 4) (v := .agg (nums wh).toArray) rfl (by kernel_rfl) (by kernel_rfl) (by kernel_rfl) (fun _ _ _ h => h) (yieldsIf_load_mid (by rfl) _ _ rfl _ _ rfl _ _ (fun w hSw => hSw) Sh.und32 rfl (by rw [HL32.out]; exact Sh.info32)) (by assumption) ?_
  try simp only [Act.put, List.getElem_toArray, List.getElem_cons_zero, List.getElem_cons_succ, List.setIfInBounds_toArray, List.set_cons_zero, List.set_cons_succ]
  refine wpAnyH_ready (rs := [1]) (by kernel_rfl) (by simp) (AllReadyH.cons rfl (fun K hK => ?_) AllReadyH.nil)
  try simp only [List.getElem_toArray, List.getElem_cons_zero, List.getElem_cons_succ]
  go_simp
  have k18 := Whole.new w17 26 #[.slice (some ⟨Q, 0, none⟩) len cap']
  have hb18 := below_alloc w17 (.cells #[.slice (some ⟨Q, 0, none⟩) len cap'] 26)
  have ht18 : Txt (w17.alloc (.cells #[.slice (some ⟨Q, 0, none⟩) len cap'] 26)) (fun _ => True) (some ⟨Q, 0, none⟩) len cap' (l.set q x) := H16.out.2.2.2.2.1.keep hb18.size (fun b hb _ => hb18.block b hb)
  have hpa := parts_one (S := fun _ => True) k18 trivial ht18
  have hw18 := H16.out.2.2.1.alloc (.cells #[.slice (some ⟨Q, 0, none⟩) len cap'] 26)
  have hv18 := H16.out.2.2.2.1.alloc (.cells #[.slice (some ⟨Q, 0, none⟩) len cap'] 26)
  have hr18 : (w17.alloc (.cells #[.slice (some ⟨Q, 0, none⟩) len cap'] 26)).rangeAt w4.heap.size 3 (nums wh) := by have := range_bt hw18 HB.out.1; rw [HD.out.1] at this; exact this
  refine hK.out _ _ hr18 (fun hHeld => ?_)
  clear hK K
  try simp only [Act.put, List.getElem_toArray, List.getElem_cons_zero, List.getElem_cons_succ, List.setIfInBounds_toArray, List.set_cons_zero, List.set_cons_succ]
  have H18 : Hid (Dk (w17.alloc (.cells #[.slice (some ⟨Q, 0, none⟩) len cap'] 26)) p bb mb A12 22 ∧ Below w.heap.size w (w17.alloc (.cells #[.slice (some ⟨Q, 0, none⟩) len cap'] 26)) ∧ Whole (w17.alloc (.cells #[.slice (some ⟨Q, 0, none⟩) len cap'] 26)) w4.heap.size 41 CB ∧ Whole (w17.alloc (.cells #[.slice (some ⟨Q, 0, none⟩) len cap'] 26)) w13.heap.size 41 D13 ∧ Sh.Parts (w17.alloc (.cells #[.slice (some ⟨Q, 0, none⟩) len cap'] 26)) (fun _ => True) (some ⟨w17.heap.size, 0, none⟩) 1 [l.set q x]) := Lib.hid ⟨H16.out.1.old hb18, H16.out.2.1.trans (hb18.mono H16.out.2.1.size), hw18, hv18, hpa⟩
  clear k18 hb18 ht18 hpa hw18 hv18 hr18
  generalize w17.alloc (.cells #[.slice (some ⟨Q, 0, none⟩) len cap'] 26) = w18 at *
  generalize w17.heap.size = G at *
  refine wpAnyH_ready (rs := [2]) (by kernel_rfl) (by simp) (AllReadyH.cons rfl (fun K hK => ?_) AllReadyH.nil)
  try simp only [List.getElem_toArray, List.getElem_cons_zero, List.getElem_cons_succ]
  go_simp
  go_at_call 24
  refine (Sh.sum_any H18.out.2.2.2.2 (HT.out.2.1.below H18.out.2.1 HT.out.2.2) (by simp; omega) (by omega)).mono ?_
  rintro e w19 ⟨rfl, hb19⟩
  rw [show [l.set q x].flatten = l.set q x by simp, HD.out.2]
  have hw19 := H18.out.2.2.1.keep (hb19.block _ H18.out.2.2.1.lt)
  have hr19 : w19.rangeAt w4.heap.size 3 (nums wh) := by have := range_bt hw19 HB.out.1; rw [HD.out.1] at this; exact this
  have H19 : Hid (Dk w19 p bb mb A12 22 ∧ Below w.heap.size w w19 ∧ Whole w19 w4.heap.size 41 CB ∧ Whole w19 w13.heap.size 41 D13) := Lib.hid ⟨H18.out.1.old hb19, H18.out.2.1.trans (hb19.mono H18.out.2.1.size), hw19, H18.out.2.2.2.1.keep (hb19.block _ H18.out.2.2.2.1.lt)⟩
  clear hw19 hb19
  go_wp2_with fail
  refine hK.out _ _ hr19 (fun hHeld => ?_)
  clear hK K
  try simp only [Act.put, List.getElem_toArray, List.getElem_cons_zero, List.getElem_cons_succ, List.setIfInBounds_toArray, List.set_cons_zero, List.set_cons_succ]
  have heq := HEQ.out
  refine wpAnyH_ready (rs := [5]) (by kernel_rfl) (by simp) (AllReadyH.cons rfl (fun K hK => ?_) AllReadyH.nil)
  try simp only [List.getElem_toArray, List.getElem_cons_zero, List.getElem_cons_succ]
  go_simp
  refine hK.out _ _ hr19 (fun hHeld => ?_)
  clear hK K heq
  try simp only [Act.put, List.getElem_toArray, List.getElem_cons_zero, List.getElem_cons_succ, List.setIfInBounds_toArray, List.set_cons_zero, List.set_cons_succ]
  refine wpAnyH_ready (rs := [6]) (by kernel_rfl) (by simp) (AllReadyH.cons rfl (fun K hK => ?_) AllReadyH.nil)
  try simp only [List.getElem_toArray, List.getElem_cons_zero, List.getElem_cons_succ]
  go_simp
  refine hK.out _ _ hr19 (fun hHeld => ?_)
  clear hK K hr19
  try simp only [Act.put, List.getElem_toArray, List.getElem_cons_zero, List.getElem_cons_succ, List.setIfInBounds_toArray, List.set_cons_zero, List.set_cons_succ]
  refine wpAnyH_done (by kernel_rfl) ?_ _
  clear hHeld
  have HE2 : Hid (∀ w : World, (binOp .eql 41 (.agg D13) (.agg CB)).run Tryd.prog w = .ok (.bool true) w) := Lib.hid fun w => by
    have := eqB HB.out.1.2.1 HB.out.1.2.1 w
    rw [decide_eq_true rfl, ← HB.out.1.1] at this
    rw [H14.out.2.2.2.2.2.1, ← HB.out.1.1]
    exact this
  go_wp2_with (first | ((with_reducible show wpList _ _ _ ((⟨_, Op.load 41 _, _, _, _, _⟩ : Oper) :: _) _ _); refine wpList_load_rowG (by rfl) 41 (.tmp 14) rfl w4.heap.size rfl 41 CB (0, 0) _ H19.out.2.2.1 hun rfl (KC.info HB.out.1) ?_) | fail)
  refine (iwhole_ok (fr := fr) (room := 10) (size := len) H19.out.1 (HT.out.2.1.below H19.out.2.1 HT.out.2.2) H12.out.2.1 (by omega) (by omega) HB.out.1 HB.out.2.2.1).mono ?_
  rintro e w20 ⟨rfl, hb20⟩
  rw [H12.out.2.2.2.1, HD.out.1, HD.out.2, HE.out]
  have H20 : Hid (Below w.heap.size w w20 ∧ Whole w20 w4.heap.size 41 CB ∧ Whole w20 w13.heap.size 41 D13) := Lib.hid ⟨H19.out.2.1.trans (hb20.mono H19.out.2.1.size), H19.out.2.2.1.keep (hb20.block _ H19.out.2.2.1.lt), H19.out.2.2.2.keep (hb20.block _ H19.out.2.2.2.lt)⟩
  clear hb20
  cases y with
  | true =>
    go_wp2_with (first | ((with_reducible show wpList _ _ _ ((⟨_, Op.load 41 _, _, _, _, _⟩ : Oper) :: _) _ _); refine wpList_load_rowG (by rfl) 41 (.tmp 20) rfl w13.heap.size rfl 41 D13 (0, 0) _ H20.out.2.2 hun rfl (KC.info H14.out.2.2.2.2.2) ?_) | ((with_reducible show wpList _ _ _ ((⟨_, Op.load 41 _, _, _, _, _⟩ : Oper) :: _) _ _); refine wpList_load_rowG (by rfl) 41 (.tmp 14) rfl w4.heap.size rfl 41 CB (0, 0) _ H20.out.2.1 hun rfl (KC.info HB.out.1) ?_) | ((with_reducible show wpList _ _ _ ((⟨some 166, _, _, _, _, _⟩ : Oper) :: _) _ _); refine wpList_cmpB (by rfl) .eql (.tmp 164) (.tmp 165) _ rfl D13 CB rfl rfl true (HE2.out _) ?_) | fail)
    go_ret
    exact ⟨rfl, H20.out.1⟩
  | false =>
    go_wp2_with (first | ((with_reducible show wpList _ _ _ ((⟨_, Op.load 41 _, _, _, _, _⟩ : Oper) :: _) _ _); refine wpList_load_rowG (by rfl) 41 (.tmp 20) rfl w13.heap.size rfl 41 D13 (0, 0) _ H20.out.2.2 hun rfl (KC.info H14.out.2.2.2.2.2) ?_) | ((with_reducible show wpList _ _ _ ((⟨_, Op.load 41 _, _, _, _, _⟩ : Oper) :: _) _ _); refine wpList_load_rowG (by rfl) 41 (.tmp 14) rfl w4.heap.size rfl 41 CB (0, 0) _ H20.out.2.1 hun rfl (KC.info HB.out.1) ?_) | ((with_reducible show wpList _ _ _ ((⟨some 166, _, _, _, _, _⟩ : Oper) :: _) _ _); refine wpList_cmpB (by rfl) .eql (.tmp 164) (.tmp 165) _ rfl D13 CB rfl rfl true (HE2.out _) ?_) | fail)
    go_ret
    exact ⟨rfl, H20.out.1⟩
end Go.Proofs.YtjpgepodkeccmaaDoor
