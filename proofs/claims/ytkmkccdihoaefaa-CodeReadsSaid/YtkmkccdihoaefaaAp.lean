/-
  The walk of CodeApart.
-/
import Derived.Test.YtkmkccdihoaefaaTx
import Derived.Lib.ConvBytes
import Derived.Lib.Bytes
namespace Go.Proofs.Ytkmkccdihoaefaa
open Go.RowKit
set_option linter.unusedSimpArgs false

theorem byt_back {l : List Int} (h : Cd.Byt l) : (l.map fun n => UInt8.ofNat n.toNat).map (fun b => (b.toNat : Int)) = l := by
  induction l with
  | nil => rfl
  | cons x l ih =>
    have hx := h x (by simp)
    have e : ((UInt8.ofNat x.toNat).toNat : Int) = x := by
      rw [UInt8.toNat_ofNat']
      have : x.toNat < 256 := by omega
      omega
    rw [List.map_cons, List.map_cons, ih (fun y hy => h y (by simp [hy])), e]
theorem strOf_inj {x y : List Int} (h : strOfNums x = strOfNums y) (hx : Cd.Byt x) (hy : Cd.Byt y) : x = y := by
  have h1 := congrArg (fun s => s.data.toList.map fun b => (b.toNat : Int)) h
  simp only [strOfNums_data] at h1
  rw [byt_back hx, byt_back hy] at h1
  exact h1
theorem str_app (x y : List Int) : strOfNums x ++ strOfNums y = strOfNums (x ++ y) := by
  apply ByteArray.ext
  rw [ByteArray.data_append]
  simp [strOfNums]
theorem str_take (x : List Int) (k : Nat) : (strOfNums x).extract 0 k = strOfNums (x.take k) := by
  apply ByteArray.ext
  rw [ByteArray.data_extract]
  simp [strOfNums, List.map_take]
/-- None's bytes begin another's. -/
theorem num_apart {n m : Int} (hn : inI64 n) (hm : inI64 m) (h : (Cd.num m).take (Cd.num n).length = Cd.num n) : n = m := by
  have e : Cd.num m = Cd.num n ++ (Cd.num m).drop (Cd.num n).length := by
    conv => lhs; rw [← List.take_append_drop (Cd.num n).length (Cd.num m), h]
  have h1 := Cd.parse_num hm.1 hm.2 []
  rw [List.append_nil, e, Cd.parse_num hn.1 hn.2] at h1
  injection h1 with h1
  injection h1 with h1 _
  have h2 : Cd.fold n = Cd.fold m := by exact_mod_cast h1
  rw [← Cd.unfold_fold n, ← Cd.unfold_fold m, h2]
theorem one_writtenN (n : Int) : written [(⟨1, n, 0, 0, [], zero32⟩ : Prt)] = Cd.num n := by
  unfold written
  simp only [List.flatMap_cons, List.flatMap_nil, List.append_nil]
  unfold partBytes
  rw [if_pos (show (1 : Int) = 1 from rfl)]
theorem txt_conv {w : World} {l : List Int} (hb : Cd.Byt l) : Txt (Lib.bytesWorld w 5 (strOfNums l)) (· = w.heap.size) (some ⟨w.heap.size, 0, none⟩) (strOfNums l).size (grownCap w (strOfNums l).size 0 5) l := by
  refine ⟨(strOfNums_size l).symm, grownCap_ge _ _ _ _, hb, Or.inr ⟨_, 0, rfl, rfl, by rw [Lib.bytesWorld_size]; omega, fun k hk => ?_⟩⟩
  rw [Nat.zero_add, Lib.bytesWorld_cell _ _ _ k hk, strOfNums_data]
  rw [strOfNums_size] at hk
  have hx := hb l[k] (List.getElem_mem hk)
  have e : ((UInt8.ofNat l[k].toNat).toNat : Int) = l[k] := by
    rw [UInt8.toNat_ofNat']
    omega
  simp [hk]
  omega
theorem conv_below (w : World) (s : ByteArray) : Below w.heap.size w (Lib.bytesWorld w 5 s) :=
  ⟨rfl, rfl, rfl, by rw [Lib.bytesWorld_size]; omega, fun k hk => Lib.bytesWorld_at_old _ _ _ k hk⟩

theorem readI_some {w w' : World} {g : Nat} {gave : Bool} {v : Int} {r : List Int} {e : Ending} (h : ReadI w g gave (some (v, r)) e w') : e = .returned (.int .i64 v) ∧ Rd w' g r gave ∧ w.grownBy w' (some g) := by
  rcases h with ⟨v', r', ho, he, h2, h3⟩ | ⟨ho, _⟩
  · injection ho with ho
    injection ho with ho1 ho2
    subst ho1 ho2
    exact ⟨he, h2, h3⟩
  · cases ho
theorem readI_none {w w' : World} {g : Nat} {gave : Bool} {e : Ending} (h : ReadI w g gave none e w') : e = .returned (.int .i64 0) ∧ Rd w' g [] true ∧ w.grownBy w' (some g) := by
  rcases h with ⟨v', r', ho, _⟩ | ⟨_, h1, h2, h3⟩
  · cases ho
  · exact ⟨h1, h2, h3⟩
theorem str_toList {x y : List Int} (h : (strOfNums x).toList = (strOfNums y).toList) : strOfNums x = strOfNums y := by
  rw [Lib.strOfNums_toList, Lib.strOfNums_toList] at h
  exact congrArg (fun l => (⟨l.toArray⟩ : ByteArray)) h

set_option maxHeartbeats 4000000 in
set_option maxRecDepth 100000 in
theorem apart_walk (n m : Int) (w0 : (Lit.int .i64 n).wf = true) (w1 : (Lit.int .i64 m).wf = true) (w : World) :
    Calls Try.prog 9 #[.int .i64 n, .int .i64 m] w fun e w' => e = .returned (.bool true) ∧ Below w.heap.size w w' := by
  have hn : inI64 n := by simp [Lit.wf, IntKind.min, IntKind.max, IntKind.signed, IntKind.bits] at w0; exact w0
  have hm : inI64 m := by simp [Lit.wf, IntKind.min, IntKind.max, IntKind.signed, IntKind.bits] at w1; exact w1
  have HN := Lib.hid hn
  have HM := Lib.hid hm
  clear w0 w1 hn hm
  have HON : Hid ((Prt.mk 1 n 0 0 [] zero32).Ok) := Lib.hid (ok_mk (in_small (by omega) (by omega)) HN.out (in_small (by omega) (by omega)) (in_small (by omega) (by omega)) zero_len byt_zero)
  have HOM : Hid ((Prt.mk 1 m 0 0 [] zero32).Ok) := Lib.hid (ok_mk (in_small (by omega) (by omega)) HM.out (in_small (by omega) (by omega)) (in_small (by omega) (by omega)) zero_len byt_zero)
  have hsb := fun (w : World) (s : ByteArray) => Lib.run_convert_string_bytes (P := Try.prog) w 9 25 5 s Try.underlying9 Try.underlying25 Try.underlying5
  go_enter Try.func9, Try.ntmps9
  go_wp2_with fail
  refine (awake_any _).mono ?_; rintro e w1 ⟨rfl, hg⟩
  have HB1 := Lib.hid hg
  clear hg
  go_wp2_with (first
    | ((with_reducible show wpList _ _ _ ((⟨_, Op.build 28 _, _, _, _, _⟩ : Oper) :: _) _ _); refine wpList_part rfl _ rfl [(0, .int .i64 _), (1, .int .i64 _)] rfl _ (built_kn _ _) ?_)
    | ((with_reducible show wpList _ _ _ ((⟨_, Op.buildSlice 23 _ _, _, _, _, _⟩ : Oper) :: _) _ _); refine wpList_build1 rfl 17 rfl _ (psize zero_len) rfl ?_))
  refine (written_any (one_prts (w := w1) rfl HON.out) (few_of (by simp) (by intro p hp; simp at hp; subst hp; simp))).mono ?_
  rintro e w2 ⟨v2, rfl, hown2, hb2⟩
  rw [one_writtenN] at hown2
  obtain ⟨a2, c2, rfl, htx2⟩ := Txt.own hown2 (Cd.byt_num _)
  have hcv2 := convert_txt htx2
  have HB2 : Hid (Below w.heap.size w w2) := Lib.hid ((HB1.out.alloc HB1.out.size _).trans (hb2.mono (by have := HB1.out.size; simp; omega)))
  obtain ⟨sA, hA⟩ : ∃ s, strOfNums (Cd.num n) = s := ⟨_, rfl⟩
  rw [hA] at hcv2
  have HA := Lib.hid hA
  obtain ⟨k2, hk2⟩ : ∃ k, (Cd.num n).length = k := ⟨_, rfl⟩
  rw [hk2] at hcv2
  rw [hk2]
  have hA1 : sA.size = k2 := by rw [← hA, strOfNums_size, hk2]
  have hA2 : 0 < k2 := by rw [← hk2]; exact Cd.num_pos n
  have hA3 : k2 ≤ 10 := by rw [← hk2]; exact Cd.num_len HN.out.1 HN.out.2
  have HK2 := Lib.hid hk2
  clear hA hown2 hb2 htx2 HB1 hk2
  go_wp2_with (first
    | ((with_reducible show wpList _ _ _ ((⟨_, Op.build 28 _, _, _, _, _⟩ : Oper) :: _) _ _); refine wpList_part rfl _ rfl [(0, .int .i64 _), (1, .int .i64 _)] rfl _ (built_kn _ _) ?_)
    | ((with_reducible show wpList _ _ _ ((⟨_, Op.buildSlice 23 _ _, _, _, _, _⟩ : Oper) :: _) _ _); refine wpList_build1 rfl 22 rfl _ (psize zero_len) rfl ?_))
  refine (written_any (one_prts (w := w2) rfl HOM.out) (few_of (by simp) (by intro p hp; simp at hp; subst hp; simp))).mono ?_
  rintro e w3 ⟨v3, rfl, hown3, hb3⟩
  rw [one_writtenN] at hown3
  obtain ⟨a3, c3, rfl, htx3⟩ := Txt.own hown3 (Cd.byt_num _)
  have hcv3 := convert_txt htx3
  have HB3 : Hid (Below w.heap.size w w3) := Lib.hid ((HB2.out.alloc HB2.out.size _).trans (hb3.mono (by have := HB2.out.size; simp; omega)))
  obtain ⟨sB, hB⟩ : ∃ s, strOfNums (Cd.num m) = s := ⟨_, rfl⟩
  rw [hB] at hcv3
  have HB := Lib.hid hB
  obtain ⟨k3, hk3⟩ : ∃ k, (Cd.num m).length = k := ⟨_, rfl⟩
  rw [hk3] at hcv3
  rw [hk3]
  have hB1 : sB.size = k3 := by rw [← hB, strOfNums_size, hk3]
  have hB2 : 0 < k3 := by rw [← hk3]; exact Cd.num_pos m
  have hB3 : k3 ≤ 10 := by rw [← hk3]; exact Cd.num_len HM.out.1 HM.out.2
  have HK3 := Lib.hid hk3
  have HX : Hid ((sB.extract 0 k2).toList = sA.toList → n = m) := Lib.hid (fun h => by
    rw [← HB.out, ← HA.out, str_take] at h
    have := strOf_inj (str_toList h) (Cd.byt_take (Cd.byt_num _) _) (Cd.byt_num _)
    rw [← HK2.out] at this
    exact num_apart HN.out HM.out this)
  have HXX : Hid (n = m → sB.extract 0 k2 = sA ∧ k2 ≤ k3) := Lib.hid (fun h => by
    subst h
    have e : k2 = k3 := HK2.out.symm.trans HK3.out
    have e2 : sA = sB := HA.out.symm.trans HB.out
    refine ⟨?_, by omega⟩
    rw [← HB.out, str_take, ← HK2.out, List.take_length, e2, ← HB.out])
  have HTC : Hid (Txt (Lib.bytesWorld w3 5 (sA ++ sB)) (· = w3.heap.size) (some ⟨w3.heap.size, 0, none⟩) (sA ++ sB).size (grownCap w3 (sA ++ sB).size 0 5) (Cd.num n ++ Cd.num m)) := Lib.hid (by
    rw [← HA.out, ← HB.out, str_app]
    exact txt_conv (Cd.byt_append (Cd.byt_num _) (Cd.byt_num _)))
  have HTC2 : Hid (∀ w : World, Txt (Lib.bytesWorld w 5 (sA ++ sB)) (· = w.heap.size) (some ⟨w.heap.size, 0, none⟩) (sA ++ sB).size (grownCap w (sA ++ sB).size 0 5) (Cd.num n ++ Cd.num m)) := Lib.hid (fun w => by
    rw [← HA.out, ← HB.out, str_app]
    exact txt_conv (Cd.byt_append (Cd.byt_num _) (Cd.byt_num _)))
  have hAB : (sA ++ sB).size = k2 + k3 := by rw [ByteArray.size_append, hA1, hB1]
  have HAB := Lib.hid hAB
  have HTC3 : Hid (∀ w : World, Txt (Lib.bytesWorld w 5 (sA ++ sB)) (· = w.heap.size) (some ⟨w.heap.size, 0, none⟩) (k2 + k3) (grownCap w (k2 + k3) 0 5) (Cd.num n ++ Cd.num m)) := Lib.hid (fun w => by
    have := HTC2.out w
    rw [HAB.out] at this
    exact this)
  have HGM : Hid (Cd.get m m (Cd.num m) = some (m, [])) := Lib.hid (by
    have := Cd.get_num HM.out.1 HM.out.2 (Int.le_refl m) (Int.le_refl m) []
    rw [List.append_nil] at this
    exact this)
  have hq2 : ((k2 : Int) == 0) = false := by simp; omega
  have hq3 : ((k3 : Int) == 0) = false := by simp; omega
  clear hB hown3 hb3 htx3 hk3 HTC HB2 HON HOM hAB HTC2 HAB
  by_cases hnm : n = m
  · obtain ⟨hx1, hx2⟩ := HXX.out hnm
    clear HX HXX
    subst hnm
    go_wp2_with fail
    refine (new_any (HTC3.out w3) (by omega)).mono ?_
    rintro e w4 ⟨g, rfl, hg4, hr4, hb4⟩
    have hz3 : w.heap.size ≤ w3.heap.size := HB3.out.size
    have HB4 : Hid (Below w.heap.size w w4) := Lib.hid ((HB3.out.trans ((conv_below w3 _).mono hz3)).trans (hb4.mono (by rw [Lib.bytesWorld_size]; omega)))
    have hgw : w.heap.size ≤ g := by rw [Lib.bytesWorld_size] at hg4; omega
    have HR4 := Lib.hid hr4
    clear hr4 hb4 hg4 HB3 hz3
    go_wp2_with fail
    refine (rint_any n n HR4.out).mono ?_
    rintro e w5 h5
    rw [Cd.get_num HN.out.1 HN.out.2 (Int.le_refl _) (Int.le_refl _)] at h5
    obtain ⟨rfl, hr5, hg5⟩ := readI_some h5
    have HR5 := Lib.hid hr5
    have HB5 : Hid (Below w.heap.size w w5) := Lib.hid (HB4.out.grown hg5 HB4.out.size (fun k hk => by injection hk with hk; omega))
    clear h5 hr5 hg5 HR4 HB4
    go_wp2_with fail
    refine (rint_any n n HR5.out).mono ?_
    rintro e w6 h6
    rw [HGM.out] at h6
    obtain ⟨rfl, hr6, hg6⟩ := readI_some h6
    have HR6 := Lib.hid hr6
    have HB6 : Hid (Below w.heap.size w w6) := Lib.hid (HB5.out.grown hg6 HB5.out.size (fun k hk => by injection hk with hk; omega))
    clear h6 hr6 hg6 HR5 HB5
    go_wp2_with fail
    refine (done_any HR6.out).mono ?_
    rintro e w7 ⟨rfl, rfl⟩
    rw [show doneOf [] false = 0 from rfl]
    go_wp2_with fail
    refine (need_any false HR6.out).mono ?_
    rintro e w8 ⟨rfl, hr8, hg8⟩
    have HR8 : Hid (Rd w8 g [] true) := Lib.hid hr8
    have HB8 : Hid (Below w.heap.size w w8) := Lib.hid (HB6.out.grown hg8 HB6.out.size (fun k hk => by injection hk with hk; omega))
    clear hr8 hg8 HR6 HB6
    go_wp2_with fail
    refine (new_any (HTC3.out w8) (by omega)).mono ?_
    rintro e w9 ⟨g2, rfl, hg9, hr9, hb9⟩
    have HC9 : Hid (Below w8.heap.size w8 w9) := Lib.hid ((conv_below w8 _).trans (hb9.mono (by rw [Lib.bytesWorld_size]; omega)))
    have hg2 : w8.heap.size ≤ g2 := by rw [Lib.bytesWorld_size] at hg9; omega
    have HR9 := Lib.hid hr9
    clear hr9 hb9 hg9
    go_wp2_with fail
    refine (need_any true HR9.out).mono ?_
    rintro e w10 ⟨rfl, hr10, hg10⟩
    have HR10 : Hid (Rd w10 g2 (Cd.num n ++ Cd.num n) false) := Lib.hid hr10
    have HC10 : Hid (Below w8.heap.size w8 w10) := Lib.hid (HC9.out.grown hg10 HC9.out.size (fun k hk => by injection hk with hk; omega))
    clear hr10 hg10 HR9 HC9
    go_wp2_with fail
    refine (rint_any n n HR10.out).mono ?_
    rintro e w11 h11
    rw [Cd.get_num HN.out.1 HN.out.2 (Int.le_refl _) (Int.le_refl _)] at h11
    obtain ⟨rfl, hr11, hg11⟩ := readI_some h11
    have HC11 : Hid (Below w8.heap.size w8 w11) := Lib.hid (HC10.out.grown hg11 HC10.out.size (fun k hk => by injection hk with hk; omega))
    clear h11 hr11 hg11 HR10 HC10
    have HR11 : Hid (Rd w11 g [] true) := Lib.hid (HR8.out.below HC11.out)
    go_wp2_with (go_at_call 26; refine (done_any HR11.out).mono ?_; rintro e w12 ⟨rfl, rfl⟩; rw [show doneOf [] true = 20 from rfl])
    go_ret
    exact ⟨rfl, HB8.out.trans (HC11.out.mono HB8.out.size)⟩
  · have hne : (n == m) = false := by simp [hnm]
    have hne2 : (n != m) = true := by simp [hnm]
    by_cases hsz : k2 ≤ k3
    · have hx1 : ¬ (sB.extract 0 k2).toList = sA.toList := fun h => hnm (HX.out h)
      have hx2 : ((sB.extract 0 k2).toList == sA.toList) = false := beq_eq_false_iff_ne.2 hx1
      clear HX HXX hx1
      go_wp2_with fail
      refine (new_any (HTC3.out w3) (by omega)).mono ?_
      rintro e w4 ⟨g, rfl, hg4, hr4, hb4⟩
      have hz3 : w.heap.size ≤ w3.heap.size := HB3.out.size
      have HB4 : Hid (Below w.heap.size w w4) := Lib.hid ((HB3.out.trans ((conv_below w3 _).mono hz3)).trans (hb4.mono (by rw [Lib.bytesWorld_size]; omega)))
      have hgw : w.heap.size ≤ g := by rw [Lib.bytesWorld_size] at hg4; omega
      have HR4 := Lib.hid hr4
      clear hr4 hb4 hg4 HB3 hz3
      go_wp2_with fail
      refine (rint_any n n HR4.out).mono ?_
      rintro e w5 h5
      rw [Cd.get_num HN.out.1 HN.out.2 (Int.le_refl _) (Int.le_refl _)] at h5
      obtain ⟨rfl, hr5, hg5⟩ := readI_some h5
      have HR5 := Lib.hid hr5
      have HB5 : Hid (Below w.heap.size w w5) := Lib.hid (HB4.out.grown hg5 HB4.out.size (fun k hk => by injection hk with hk; omega))
      clear h5 hr5 hg5 HR4 HB4
      go_wp2_with fail
      refine (rint_any m m HR5.out).mono ?_
      rintro e w6 h6
      rw [HGM.out] at h6
      obtain ⟨rfl, hr6, hg6⟩ := readI_some h6
      have HR6 := Lib.hid hr6
      have HB6 : Hid (Below w.heap.size w w6) := Lib.hid (HB5.out.grown hg6 HB5.out.size (fun k hk => by injection hk with hk; omega))
      clear h6 hr6 hg6 HR5 HB5
      go_wp2_with fail
      refine (done_any HR6.out).mono ?_
      rintro e w7 ⟨rfl, rfl⟩
      rw [show doneOf [] false = 0 from rfl]
      go_wp2_with fail
      refine (need_any false HR6.out).mono ?_
      rintro e w8 ⟨rfl, hr8, hg8⟩
      have HR8 : Hid (Rd w8 g [] true) := Lib.hid hr8
      have HB8 : Hid (Below w.heap.size w w8) := Lib.hid (HB6.out.grown hg8 HB6.out.size (fun k hk => by injection hk with hk; omega))
      clear hr8 hg8 HR6 HB6
      go_wp2_with fail
      refine (new_any (HTC3.out w8) (by omega)).mono ?_
      rintro e w9 ⟨g2, rfl, hg9, hr9, hb9⟩
      have HC9 : Hid (Below w8.heap.size w8 w9) := Lib.hid ((conv_below w8 _).trans (hb9.mono (by rw [Lib.bytesWorld_size]; omega)))
      have hg2 : w8.heap.size ≤ g2 := by rw [Lib.bytesWorld_size] at hg9; omega
      have HR9 := Lib.hid hr9
      clear hr9 hb9 hg9
      go_wp2_with fail
      refine (need_any false HR9.out).mono ?_
      rintro e w10 ⟨rfl, hr10, hg10⟩
      have HR10 : Hid (Rd w10 g2 [] true) := Lib.hid hr10
      have HC10 : Hid (Below w8.heap.size w8 w10) := Lib.hid (HC9.out.grown hg10 HC9.out.size (fun k hk => by injection hk with hk; omega))
      clear hr10 hg10 HR9 HC9
      go_wp2_with fail
      refine (rint_any n n HR10.out).mono ?_
      rintro e w11 h11
      rw [show Cd.get n n [] = none from rfl] at h11
      obtain ⟨rfl, hr11, hg11⟩ := readI_none h11
      have HC11 : Hid (Below w8.heap.size w8 w11) := Lib.hid (HC10.out.grown hg11 HC10.out.size (fun k hk => by injection hk with hk; omega))
      clear h11 hr11 hg11 HR10 HC10
      have HR11 : Hid (Rd w11 g [] true) := Lib.hid (HR8.out.below HC11.out)
      go_wp2_with (go_at_call 26; refine (done_any HR11.out).mono ?_; rintro e w12 ⟨rfl, rfl⟩; rw [show doneOf [] true = 20 from rfl])
      go_ret
      exact ⟨rfl, HB8.out.trans (HC11.out.mono HB8.out.size)⟩
    · clear HX HXX
      go_wp2_with fail
      refine (new_any (HTC3.out w3) (by omega)).mono ?_
      rintro e w4 ⟨g, rfl, hg4, hr4, hb4⟩
      have hz3 : w.heap.size ≤ w3.heap.size := HB3.out.size
      have HB4 : Hid (Below w.heap.size w w4) := Lib.hid ((HB3.out.trans ((conv_below w3 _).mono hz3)).trans (hb4.mono (by rw [Lib.bytesWorld_size]; omega)))
      have hgw : w.heap.size ≤ g := by rw [Lib.bytesWorld_size] at hg4; omega
      have HR4 := Lib.hid hr4
      clear hr4 hb4 hg4 HB3 hz3
      go_wp2_with fail
      refine (rint_any n n HR4.out).mono ?_
      rintro e w5 h5
      rw [Cd.get_num HN.out.1 HN.out.2 (Int.le_refl _) (Int.le_refl _)] at h5
      obtain ⟨rfl, hr5, hg5⟩ := readI_some h5
      have HR5 := Lib.hid hr5
      have HB5 : Hid (Below w.heap.size w w5) := Lib.hid (HB4.out.grown hg5 HB4.out.size (fun k hk => by injection hk with hk; omega))
      clear h5 hr5 hg5 HR4 HB4
      go_wp2_with fail
      refine (rint_any m m HR5.out).mono ?_
      rintro e w6 h6
      rw [HGM.out] at h6
      obtain ⟨rfl, hr6, hg6⟩ := readI_some h6
      have HR6 := Lib.hid hr6
      have HB6 : Hid (Below w.heap.size w w6) := Lib.hid (HB5.out.grown hg6 HB5.out.size (fun k hk => by injection hk with hk; omega))
      clear h6 hr6 hg6 HR5 HB5
      go_wp2_with fail
      refine (done_any HR6.out).mono ?_
      rintro e w7 ⟨rfl, rfl⟩
      rw [show doneOf [] false = 0 from rfl]
      go_wp2_with fail
      refine (need_any false HR6.out).mono ?_
      rintro e w8 ⟨rfl, hr8, hg8⟩
      have HR8 : Hid (Rd w8 g [] true) := Lib.hid hr8
      have HB8 : Hid (Below w.heap.size w w8) := Lib.hid (HB6.out.grown hg8 HB6.out.size (fun k hk => by injection hk with hk; omega))
      clear hr8 hg8 HR6 HB6
      go_wp2_with fail
      refine (new_any (HTC3.out w8) (by omega)).mono ?_
      rintro e w9 ⟨g2, rfl, hg9, hr9, hb9⟩
      have HC9 : Hid (Below w8.heap.size w8 w9) := Lib.hid ((conv_below w8 _).trans (hb9.mono (by rw [Lib.bytesWorld_size]; omega)))
      have hg2 : w8.heap.size ≤ g2 := by rw [Lib.bytesWorld_size] at hg9; omega
      have HR9 := Lib.hid hr9
      clear hr9 hb9 hg9
      go_wp2_with fail
      refine (need_any false HR9.out).mono ?_
      rintro e w10 ⟨rfl, hr10, hg10⟩
      have HR10 : Hid (Rd w10 g2 [] true) := Lib.hid hr10
      have HC10 : Hid (Below w8.heap.size w8 w10) := Lib.hid (HC9.out.grown hg10 HC9.out.size (fun k hk => by injection hk with hk; omega))
      clear hr10 hg10 HR9 HC9
      go_wp2_with fail
      refine (rint_any n n HR10.out).mono ?_
      rintro e w11 h11
      rw [show Cd.get n n [] = none from rfl] at h11
      obtain ⟨rfl, hr11, hg11⟩ := readI_none h11
      have HC11 : Hid (Below w8.heap.size w8 w11) := Lib.hid (HC10.out.grown hg11 HC10.out.size (fun k hk => by injection hk with hk; omega))
      clear h11 hr11 hg11 HR10 HC10
      have HR11 : Hid (Rd w11 g [] true) := Lib.hid (HR8.out.below HC11.out)
      go_wp2_with (go_at_call 26; refine (done_any HR11.out).mono ?_; rintro e w12 ⟨rfl, rfl⟩; rw [show doneOf [] true = 20 from rfl])
      go_ret
      exact ⟨rfl, HB8.out.trans (HC11.out.mono HB8.out.size)⟩
end Go.Proofs.Ytkmkccdihoaefaa
