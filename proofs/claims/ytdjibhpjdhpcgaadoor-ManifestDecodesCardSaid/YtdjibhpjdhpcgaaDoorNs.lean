/-
  The walks of the document's hash and Decode.
-/
import Derived.Test.YtdjibhpjdhpcgaaDoorZq
set_option maxRecDepth 20000
namespace Mf
open Go.Proofs.YtdjibhpjdhpcgaaDoor
theorem getN_some {l r : List Int} {u : Int} (h : Cd.parse l = some (u, r)) : Cd.getN l = (Cd.unfold u.toNat, l.length - r.length) := by unfold Cd.getN; rw [h]
/-- What is decoded, by the document's Get. -/
theorem dec_get {l : List Int} (hb : Byt l) {sz ch : Int} {j k : Nat} (h1 : Cd.getN l = (sz, j)) (h2 : Cd.getN (l.drop j) = (ch, k)) :
    (j = 0 ∨ k = 0 ∨ 65536 < sz ∨ 4096 < ch → dec l = none) ∧
    (¬ (j = 0 ∨ k = 0 ∨ 65536 < sz ∨ 4096 < ch) → j + k ≤ l.length ∧ dec l = decR (max sz 0) (max ch 0) (l.drop (j + k))) := by
  cases e1 : Cd.parse l with
  | none =>
    have hg := Cd.getN_none e1
    rw [hg] at h1
    injection h1 with ha hb'
    have hd : dec l = none := by unfold dec Cd.get; rw [e1]
    exact ⟨fun _ => hd, fun h => absurd (Or.inl hb'.symm) h⟩
  | some x =>
    obtain ⟨u, r⟩ := x
    rw [getN_some e1] at h1
    injection h1 with ha hj
    obtain ⟨_, _, hl⟩ := Cd.parse_enc e1 hb
    have hlen := congrArg List.length hl
    rw [List.length_append] at hlen
    have hdr : l.drop j = r := by
      rw [show j = (Cd.encU u.toNat).length by omega, hl]
      exact List.drop_left
    have hbr : Byt r := byt_right (a := Cd.encU u.toNat) (by rw [← hl]; exact hb)
    have hget : Cd.get 1 65536 l = if 1 ≤ sz ∧ sz ≤ 65536 then some (sz, r) else none := by unfold Cd.get; rw [e1]; simp only [ha]
    rw [hdr] at h2
    cases e2 : Cd.parse r with
    | none =>
      have hg := Cd.getN_none e2
      rw [hg] at h2
      injection h2 with hc hk
      have hd : dec l = none := by
        unfold dec; rw [hget]
        split
        · rfl
        · rename_i s' r' he
          split at he
          · injection he with he
            injection he with _ he
            subst he
            unfold Cd.get; rw [e2]
          · cases he
      exact ⟨fun _ => hd, fun h => absurd (Or.inr (Or.inl hk.symm)) h⟩
    | some y =>
      obtain ⟨v, q⟩ := y
      rw [getN_some e2] at h2
      injection h2 with hc hk
      obtain ⟨_, _, hr⟩ := Cd.parse_enc e2 hbr
      have hlen2 := congrArg List.length hr
      rw [List.length_append] at hlen2
      have hget2 : Cd.get 1 4096 r = if 1 ≤ ch ∧ ch ≤ 4096 then some (ch, q) else none := by unfold Cd.get; rw [e2]; simp only [hc]
      have hdq : l.drop (j + k) = q := by
        rw [← List.drop_drop, hdr, show k = (Cd.encU v.toNat).length by omega]
        conv => lhs; rw [hr]
        exact List.drop_left
      have hdec : dec l = if (1 ≤ sz ∧ sz ≤ 65536) ∧ (1 ≤ ch ∧ ch ≤ 4096) then decR sz ch q else none := by
        unfold dec
        rw [hget]
        by_cases c1 : 1 ≤ sz ∧ sz ≤ 65536
        · rw [if_pos c1]
          simp only
          rw [hget2]
          by_cases c2 : 1 ≤ ch ∧ ch ≤ 4096
          · rw [if_pos c2, if_pos ⟨c1, c2⟩]
          · rw [if_neg c2, if_neg (fun h => c2 h.2)]
        · rw [if_neg c1, if_neg (fun h => c1 h.1)]
      have hp1 := Cd.encU_pos u.toNat
      have hp2 := Cd.encU_pos v.toNat
      refine ⟨fun h => ?_, fun h => ⟨by omega, ?_⟩⟩
      · rw [hdec, if_neg]
        intro hh
        rcases h with h | h | h | h <;> omega
      · rw [hdec, hdq]
        by_cases c1 : 1 ≤ sz
        · by_cases c2 : 1 ≤ ch
          · rw [if_pos ⟨⟨c1, by omega⟩, ⟨c2, by omega⟩⟩, show max sz 0 = sz by omega, show max ch 0 = ch by omega]
          · rw [if_neg (fun h => c2 h.2.1)]
            unfold decR
            rw [if_pos (Or.inl (cnt_bad (by omega)))]
        · rw [if_neg (fun h => c1 h.1.1)]
          unfold decR
          rw [if_pos (Or.inl (cnt_bad (by omega)))]
theorem getN_le {l : List Int} (hb : Byt l) : (Cd.getN l).2 ≤ l.length ∧ In64 (Cd.getN l).1 := by
  cases e1 : Cd.parse l with
  | none => rw [Cd.getN_none e1]; exact ⟨Nat.zero_le _, by show (-9223372036854775808 : Int) ≤ 0; omega, by show (0 : Int) ≤ 9223372036854775807; omega⟩
  | some x =>
    obtain ⟨u, r⟩ := x
    rw [getN_some e1]
    obtain ⟨h1, h2, _⟩ := Cd.parse_enc e1 hb
    exact ⟨Nat.sub_le _ _, Cd.unfold_range (by omega)⟩
end Mf
namespace Go.Proofs.YtdjibhpjdhpcgaaDoor
set_option linter.unusedSimpArgs false
open Go.RowKit
theorem hash_new {w : World} : Whole ((w.alloc (.cells (nums (zs 32)).toArray 25)).alloc (.cells (nums (zs 32)).toArray 25)) (w.heap.size + 1) 25 (nums (zs 32)).toArray := by
  have h := Whole.new (w.alloc (.cells (nums (zs 32)).toArray 25)) 25 (nums (zs 32)).toArray
  rw [size_alloc] at h
  exact h
theorem built_z32 : Tryd.prog.built 25 [] = some (nums (zs 32)).toArray := by kernel_rfl
set_option maxHeartbeats 2000000 in
theorem rh_any {w : World} {S : Nat → Prop} {a : Option Addr} {n c i : Nat} {l : List Int} (ht : Txt w S a n c l) (hi : 32 * i + 32 ≤ n) (hn : n ≤ 1000000) :
    Calls Tryd.prog 48 #[.slice a n c, .int .i64 (i : Int)] w fun e w' => e = .returned (.agg (nums ((l.drop (32 * i)).take 32)).toArray) ∧ Below w.heap.size w w' := by
  have HT := Lib.hid ht.old
  have HLN := Lib.hid ht.1
  have HBY := Lib.hid ht.2.2.1
  obtain ⟨b, off, rfl, _, _, _⟩ := ht.cell (k := 0) (by omega)
  clear ht
  obtain ⟨p, hp⟩ : ∃ p, (l.drop (32 * i)).take 32 = p := ⟨_, rfl⟩
  have HP := Lib.hid hp
  have hp32 : p.length = 32 := by rw [← hp, List.length_take, List.length_drop, HLN.out]; omega
  have HPL := Lib.hid hp32
  obtain ⟨q, hq⟩ : ∃ q : Nat, 32 * i = q := ⟨_, rfl⟩
  have hq' : (32 : Int) * (i : Int) = (q : Int) := by omega
  have HQ := Lib.hid hq
  have hqn : q + 32 ≤ n := by omega
  have HPQ : Hid (∀ k, k < 32 → l.getD (q + k) 0 = p.getD k 0) := Lib.hid (fun k hk => by
    rw [← hp, hq]
    simp [hk])
  clear hp hq hi hp32
  have hz32 : (nums (zs 32)).toArray.size = 32 := rfl
  have hza := all_nums (zs 32)
  go_enter Tryd.func48, Tryd.ntmps48
  go_wp2_with (first
    | ((with_reducible show wpList _ _ _ ((⟨_, Op.build 25 _, _, _, _, _⟩ : Oper) :: _) _ _); refine wpList_built rfl _ rfl _ rfl _ built_z32 ?_)
    | ((with_reducible show wpList _ _ _ ((⟨_, Op.store 25 _ _, _, _, _, _⟩ : Oper) :: _) _ _); rw [zero32z]; refine wpList_store_row rfl _ (.tmp 5) (.tmp 7) rfl (w.heap.size + 1) (nums (zs 32)).toArray rfl rfl 25 _ hash_new (by rw [hz32]; exact info32) rfl hza ?_))
  have kr : Whole (((w.alloc (.cells (nums (zs 32)).toArray 25)).alloc (.cells (nums (zs 32)).toArray 25)).setRow (w.heap.size + 1) (nums (zs 32)).toArray) w.heap.size 25 (nums (zs 32)).toArray := ((Whole.new w 25 (nums (zs 32)).toArray).alloc _).rowFar (by omega) _
  have kh : Whole (((w.alloc (.cells (nums (zs 32)).toArray 25)).alloc (.cells (nums (zs 32)).toArray 25)).setRow (w.heap.size + 1) (nums (zs 32)).toArray) (w.heap.size + 1) 25 (nums (zs 32)).toArray := hash_new.row _
  have hb2 : Below w.heap.size w (((w.alloc (.cells (nums (zs 32)).toArray 25)).alloc (.cells (nums (zs 32)).toArray 25)).setRow (w.heap.size + 1) (nums (zs 32)).toArray) := below_row (below_two w _ _) (by omega) _
  generalize ((w.alloc (.cells (nums (zs 32)).toArray 25)).alloc (.cells (nums (zs 32)).toArray 25)).setRow (w.heap.size + 1) (nums (zs 32)).toArray = w2 at *
  have H0 := Lib.hid (And.intro kr (And.intro kh hb2))
  clear kr kh hb2
  go_loopw [6] (fun x wr => ∃ k : Nat, k ≤ 32 ∧ x = .int .i64 (k : Int) ∧ Hid (Whole wr w.heap.size 25 (nums (zs 32)).toArray ∧ Whole wr (w.heap.size + 1) 25 (nums (p.take k ++ zs (32 - k))).toArray ∧ Below w.heap.size w wr)) (fun x _ => 32 - (intOf x).toNat)
  case atStart => exact ⟨0, Nat.zero_le _, rfl, H0⟩
  case round =>
    clear H0
    obtain ⟨k, hk, rfl, HK⟩ := hrel
    by_cases hlt : k < 32
    · obtain ⟨b', off', e', _, hbl, hc⟩ := HT.out.cell (k := q + k) (by omega)
      injection e' with e'
      injection e' with e1 e2
      subst e1 e2
      have hc2 : wr.cell? ⟨b, off + (q + k), none⟩ = some (.int .u8 (p.getD k 0)) := by
        rw [HK.out.2.2.cell (p := ⟨b, off + (q + k), none⟩) hbl, hc, HPQ.out k hlt]
      have cw : ∃ old, wr.cell? ⟨w.heap.size + 1, k, none⟩ = some (.int .u8 old) := ⟨_, (HK.out.2.1.cell k).trans (by rw [List.getElem?_toArray, nums_get _ _ (by rw [List.length_append, List.length_take, HPL.out, zs_len]; omega)])⟩
      obtain ⟨old, cw⟩ := cw
      have fw : wr.frozen? ⟨w.heap.size + 1, k, none⟩ = false := HK.out.2.1.frozen k
      have HS := Lib.hid (out_set p k HPL.out hlt)
      have hqk : q + k < n := by omega
      clear hc
      generalize p.getD k 0 = x at *
      go_wp2
      exact ⟨⟨k + 1, by omega, by go_num, Lib.hid ⟨HK.out.1.far (by show w.heap.size ≠ w.heap.size + 1; omega) _, by rw [← HS.out]; exact HK.out.2.1.set k _, HK.out.2.2.setCell (by show w.heap.size ≤ w.heap.size + 1; omega) _⟩⟩, by simp [intOf]; omega⟩
    · obtain rfl : k = 32 := by omega
      have HK2 : Hid (Whole wr w.heap.size 25 (nums (zs 32)).toArray ∧ Whole wr (w.heap.size + 1) 25 (nums p).toArray ∧ Below w.heap.size w wr) := Lib.hid (by
        have h := HK.out
        rw [List.take_of_length_le (by rw [HPL.out]; omega), show zs (32 - 32) = [] from rfl, List.append_nil] at h
        exact h)
      have hNs : (nums p).toArray.size = 32 := by rw [List.size_toArray, nums_len, HPL.out]
      have hNa := all_nums p
      have HZ : Hid ((nums (zs 32)).toArray.size = 32) := Lib.hid rfl
      clear HK
      generalize hN : (nums p).toArray = N at *
      have HN := Lib.hid hN
      clear hN
      go_wp2_with (first
        | ((with_reducible show wpList _ _ _ ((⟨_, Op.load 25 _, _, _, _, _⟩ : Oper) :: _) _ _); refine wpList_load_row rfl _ (.tmp 5) rfl (w.heap.size + 1) rfl 25 N (0, 0) _ HK2.out.2.1 und32 rfl (by rw [hNs]; exact info32) ?_)
        | ((with_reducible show wpList _ _ _ ((⟨_, Op.store 25 _ _, _, _, _, _⟩ : Oper) :: _) _ _); refine wpList_store_row rfl _ (.tmp 4) (.tmp 21) rfl w.heap.size N rfl rfl 25 _ HK2.out.1 (by rw [hNs]; exact info32) (by rw [HZ.out, hNs]) hNa ?_))
      refine bodyPost_ret (results_one_cell rfl _ _ _ _ rfl (run_loadVar_row _ _ _ _ _ (0, 0) _ (HK2.out.1.row N) und32 rfl (by rw [hNs]; exact info32))) rfl ?_
      exact ⟨by rw [← HN.out, HP.out], below_row HK2.out.2.2 (Nat.le_refl _) N⟩
/-- What holds while the document's digests are read: k of them are appended. -/
structure Gst (w : World) (Bo X M : Nat) (s c : Int) (wh : List Int) (q : List Int) (k : Nat) (v : Value) (wr : World) : Prop where
  m : Whole wr M 27 (mcs s c v wh).toArray
  own : wr.ownsRow Bo 25 32 v k (nums (Mf.cut q k).flatten)
  x : Whole wr X 27 zm
  b : Below w.heap.size w wr
  hb : Bo ≤ wr.heap.size
  lt : w.heap.size ≤ X ∧ X < M ∧ M < Bo
theorem Gst.below {w : World} {Bo X M : Nat} {s c : Int} {wh q : List Int} {k : Nat} {v : Value} {wr w' : World} (h : Gst w Bo X M s c wh q k v wr) (hb : Below wr.heap.size wr w') : Gst w Bo X M s c wh q k v w' :=
  ⟨h.m.below hb h.m.lt, own_keep h.own (fun b hq => hb.block b (own_lt h.own b hq)), h.x.below hb h.x.lt, h.b.trans (hb.mono h.b.size), Nat.le_trans h.hb hb.size, h.lt⟩
theorem Gst.stored {w : World} {Bo X M : Nat} {s c : Int} {wh q : List Int} {k : Nat} {v v' : Value} {wr w' : World} (h : Gst w Bo X M s c wh q k v wr) (hg : wr.grownBy w' v.ownBlock)
    (hown : w'.ownsRow Bo 25 32 v' (k + 1) (nums (Mf.cut q (k + 1)).flatten)) : Gst w Bo X M s c wh q (k + 1) v' (w'.setCell ⟨M, 2, none⟩ v') := by
  obtain ⟨l2, l3, l4⟩ := h.lt
  have hge : ∀ b, v.ownBlock = some b → Bo ≤ b := own_ge h.own
  have far : ∀ p, p < Bo → some p ≠ v.ownBlock := fun p hp e => by have := hge p e.symm; omega
  have hge' : ∀ b, v'.ownBlock = some b → Bo ≤ b := own_ge hown
  refine ⟨(h.m.grown hg (far M l4)).set 2 v', own_keep hown (fun b hq => Below.heap_setCell w' ⟨M, 2, none⟩ v' b (by have := hge' b hq; show b ≠ M; omega)), (h.x.grown hg (far X (by omega))).far (by show X ≠ M; omega) _, ?_, ?_, h.lt⟩
  · exact (h.b.grown hg h.b.size (fun b hq => Nat.le_trans (by omega) (hge b hq))).setCell (by show w.heap.size ≤ M; omega) _
  · have := hg.size; simp; exact Nat.le_trans h.hb this
set_option maxHeartbeats 8000000 in
theorem rdecode_any {w : World} {S : Nat → Prop} {a : Option Addr} {n c : Nat} {l : List Int} (ht : Txt w S a n c l) (hn : n ≤ 1000000) :
    Calls Tryd.prog 30 #[.slice a n c] w (Decd w l) := by
  have HT := Lib.hid ht.old
  have HLN := Lib.hid ht.1
  have HBY := Lib.hid ht.2.2.1
  clear ht
  have hg1 := Mf.getN_le HBY.out
  obtain ⟨sz, j, hG1⟩ : ∃ sz j, Cd.getN l = (sz, j) := ⟨_, _, rfl⟩
  rw [hG1] at hg1
  have hjn : j ≤ n := by rw [← HLN.out]; exact hg1.1
  have hg2 := Mf.getN_le (byt_drop HBY.out j)
  obtain ⟨ch, k, hG2⟩ : ∃ ch k, Cd.getN (l.drop j) = (ch, k) := ⟨_, _, rfl⟩
  rw [hG2] at hg2
  have HDG := Lib.hid (Mf.dec_get HBY.out hG1 hG2)
  have HI := Lib.hid (And.intro hg1.2 hg2.2)
  have HG1 := Lib.hid hG1
  have HG2 := Lib.hid hG2
  have hzone := mcs_one (s := 0) (c := 0) (v := .slice none 0 0) (h := zs 32) rfl
  obtain ⟨A1, hA1, HT1⟩ : ∃ A, (∀ w, (Instr.slice 23 (.slice a n c) (some (.int .i64 (j : Int))) none none).run Tryd.prog w = .ok (.slice A (n - j) (c - j)) w) ∧ Hid (Txt w (fun b => b < w.heap.size) A (n - j) (c - j) (l.drop j)) := ⟨_, slice_from hjn, Lib.hid (HT.out.drop j hjn)⟩
  clear hG1 hG2 hg1 hg2
  go_enter Tryd.func30, Tryd.ntmps30
  go_wp2_with fail
  rw [zeroM, show (mcs 0 0 (.slice none 0 0) (zs 32)).toArray = zm from rfl]
  have hb1 := below_alloc w (.cells zm 27)
  have HX1 := Lib.hid (Whole.new w 27 zm)
  have HB1 := Lib.hid hb1
  have hl1 : w.heap.size < (w.alloc (.cells zm 27)).heap.size := HX1.out.lt
  generalize w.alloc (.cells zm 27) = w1 at *
  refine (Co.get_ref (HT.out.below HB1.out (fun _ _ h => h)) hn).mono ?_
  rintro e w2 ⟨rfl, hb2⟩
  rw [HG1.out]
  have HB2 := Lib.hid (HB1.out.trans (hb2.mono HB1.out.size))
  have HX2 := Lib.hid (HX1.out.below hb2 hl1)
  clear hb1 hb2 HB1 HX1
  go_wp2_with fail
  refine (Co.get_ref (HT1.out.below HB2.out (fun _ _ h => h)) (by omega)).mono ?_
  rintro e w3 ⟨rfl, hb3⟩
  rw [HG2.out]
  have HB3 := Lib.hid (HB2.out.trans (hb3.mono HB2.out.size))
  have HX3 := Lib.hid (HX2.out.below hb3 HX2.out.lt)
  clear hb3 HB2 HX2 hl1
  have hend : ∀ (wz : World), wz = w3.setRow w.heap.size zm → Whole wz w.heap.size 27 zm ∧ Below w.heap.size w wz := fun wz e => by
    subst e; exact ⟨HX3.out.row zm, below_row HB3.out (Nat.le_refl _) zm⟩
  have HEND := Lib.hid hend
  clear hend
  by_cases hbad : j = 0 ∨ k = 0 ∨ 65536 < sz ∨ 4096 < ch
  · have HN := Lib.hid (HDG.out.1 hbad)
    by_cases c1 : j = 0
    · have d1 : ((j : Int) == 0) = true := by simp [c1]
      clear hbad
      go_wp2_with (first | ((with_reducible show wpList _ _ _ ((⟨_, Op.build 27 _, _, _, _, _⟩ : Oper) :: _) _ _); refine wpList_built rfl _ rfl _ rfl _ built_nil ?_) | ((with_reducible show wpList _ _ _ ((⟨_, Op.store 27 _ _, _, _, _, _⟩ : Oper) :: _) _ _); refine wpList_store_row rfl _ (.tmp 2) (.tmp 38) rfl w.heap.size zm rfl rfl 27 _ HX3.out (by rw [zm_size]; exact info35) rfl hzone ?_))
      refine bodyPost_ret (results_cell_one rfl _ _ _ _ rfl (loadVar35 (HEND.out _ rfl).1 zm_size)) rfl ?_
      exact ⟨Or.inr ⟨HN.out, rfl⟩, (HEND.out _ rfl).2⟩
    have d1 : ((j : Int) == 0) = false := by simp [c1]
    by_cases c2 : k = 0
    · have d2 : ((k : Int) == 0) = true := by simp [c2]
      clear hbad
      go_wp2_with (first | ((with_reducible show wpList _ _ _ ((⟨_, Op.build 27 _, _, _, _, _⟩ : Oper) :: _) _ _); refine wpList_built rfl _ rfl _ rfl _ built_nil ?_) | ((with_reducible show wpList _ _ _ ((⟨_, Op.store 27 _ _, _, _, _, _⟩ : Oper) :: _) _ _); refine wpList_store_row rfl _ (.tmp 2) (.tmp 38) rfl w.heap.size zm rfl rfl 27 _ HX3.out (by rw [zm_size]; exact info35) rfl hzone ?_))
      refine bodyPost_ret (results_cell_one rfl _ _ _ _ rfl (loadVar35 (HEND.out _ rfl).1 zm_size)) rfl ?_
      exact ⟨Or.inr ⟨HN.out, rfl⟩, (HEND.out _ rfl).2⟩
    have d2 : ((k : Int) == 0) = false := by simp [c2]
    by_cases c3 : 65536 < sz
    · have d3 : decide (65536 < sz) = true := decide_eq_true c3
      clear hbad
      go_wp2_with (first | ((with_reducible show wpList _ _ _ ((⟨_, Op.build 27 _, _, _, _, _⟩ : Oper) :: _) _ _); refine wpList_built rfl _ rfl _ rfl _ built_nil ?_) | ((with_reducible show wpList _ _ _ ((⟨_, Op.store 27 _ _, _, _, _, _⟩ : Oper) :: _) _ _); refine wpList_store_row rfl _ (.tmp 2) (.tmp 38) rfl w.heap.size zm rfl rfl 27 _ HX3.out (by rw [zm_size]; exact info35) rfl hzone ?_))
      refine bodyPost_ret (results_cell_one rfl _ _ _ _ rfl (loadVar35 (HEND.out _ rfl).1 zm_size)) rfl ?_
      exact ⟨Or.inr ⟨HN.out, rfl⟩, (HEND.out _ rfl).2⟩
    have d3 : decide (65536 < sz) = false := decide_eq_false c3
    have c4 : 4096 < ch := by omega
    have d4 : decide (4096 < ch) = true := decide_eq_true c4
    clear hbad
    go_wp2_with (first | ((with_reducible show wpList _ _ _ ((⟨_, Op.build 27 _, _, _, _, _⟩ : Oper) :: _) _ _); refine wpList_built rfl _ rfl _ rfl _ built_nil ?_) | ((with_reducible show wpList _ _ _ ((⟨_, Op.store 27 _ _, _, _, _, _⟩ : Oper) :: _) _ _); refine wpList_store_row rfl _ (.tmp 2) (.tmp 38) rfl w.heap.size zm rfl rfl 27 _ HX3.out (by rw [zm_size]; exact info35) rfl hzone ?_))
    refine bodyPost_ret (results_cell_one rfl _ _ _ _ rfl (loadVar35 (HEND.out _ rfl).1 zm_size)) rfl ?_
    exact ⟨Or.inr ⟨HN.out, rfl⟩, (HEND.out _ rfl).2⟩
  · have HJK := Lib.hid (HDG.out.2 hbad)
    have d1 : ((j : Int) == 0) = false := by simp; omega
    have d2 : ((k : Int) == 0) = false := by simp; omega
    have d3 : decide (65536 < sz) = false := decide_eq_false (by omega)
    have d4 : decide (4096 < ch) = false := decide_eq_false (by omega)
    have hsz : sz ≤ 65536 := by omega
    have hch : ch ≤ 4096 := by omega
    have hjk : j + k ≤ n := by rw [← HLN.out]; exact HJK.out.1
    obtain ⟨J, hJ⟩ : ∃ J, j + k = J := ⟨_, rfl⟩
    have hJ' : (j : Int) + (k : Int) = (J : Int) := by omega
    rw [hJ] at HJK hjk
    obtain ⟨AR, hAR, HTR⟩ : ∃ A, (∀ w, (Instr.slice 23 (.slice a n c) (some (.int .i64 (J : Int))) none none).run Tryd.prog w = .ok (.slice A (n - J) (c - J)) w) ∧ Hid (Txt w (fun b => b < w.heap.size) A (n - J) (c - J) (l.drop J)) := ⟨_, slice_from hjk, Lib.hid (HT.out.drop J hjk)⟩
    obtain ⟨s0, hs0⟩ : ∃ s0, max sz 0 = s0 := ⟨_, rfl⟩
    obtain ⟨c0, hc0⟩ : ∃ c0, max ch 0 = c0 := ⟨_, rfl⟩
    have hs0' : (if sz < 0 then 0 else sz) = s0 := by rw [← hs0]; split <;> omega
    have hc0' : (if ch < 0 then 0 else ch) = c0 := by rw [← hc0]; split <;> omega
    have hsr : 0 ≤ s0 ∧ s0 ≤ 65536 := by omega
    have hcr : 0 ≤ c0 ∧ c0 ≤ 4096 := by omega
    rw [hs0, hc0] at HJK
    have HS0 := Lib.hid (show 1 ≤ s0 → s0 = sz by omega)
    have HC0 := Lib.hid (show 1 ≤ c0 → c0 = ch by omega)
    clear hbad hJ
    go_wp2_with fail
    obtain ⟨N, hN⟩ : ∃ N, Mf.cnt s0 c0 = N := ⟨_, rfl⟩
    have hle : N ≤ 64 := by rw [← hN]; exact Mf.cnt_le s0 c0
    have HN := Lib.hid hN
    obtain ⟨R, hR⟩ : ∃ R, n - J = R := ⟨_, rfl⟩
    have hRn : R ≤ 1000000 := by omega
    rw [hR] at hAR HTR
    obtain ⟨T, hT⟩ : ∃ T : Nat, 32 * (N + 1) = T := ⟨_, rfl⟩
    have hT1 : (32 : Int) * ((N : Int) + 1) = (T : Int) := by omega
    have hTn : T ≤ 3000 := by omega
    have HTT := Lib.hid hT
    have HRL : Hid ((l.drop J).length = R) := Lib.hid HTR.out.1
    clear hN hR hT hs0 hc0 hs0' hc0'
    refine (chunks_any s0 c0 _ ⟨by omega, by omega⟩ ⟨by omega, by omega⟩).mono ?_
    rintro e w4 ⟨rfl, rfl⟩
    rw [HN.out]
    by_cases hz : N = 0
    · have d5 : ((N : Int) == 0) = true := by simp [hz]
      have HDN : Hid (Mf.dec l = none) := Lib.hid (by rw [HJK.out.2]; unfold Mf.decR; rw [if_pos (Or.inl (by rw [HN.out]; exact hz))])
      go_wp2_with (first | ((with_reducible show wpList _ _ _ ((⟨_, Op.build 27 _, _, _, _, _⟩ : Oper) :: _) _ _); refine wpList_built rfl _ rfl _ rfl _ built_nil ?_) | ((with_reducible show wpList _ _ _ ((⟨_, Op.store 27 _ _, _, _, _, _⟩ : Oper) :: _) _ _); refine wpList_store_row rfl _ (.tmp 2) (.tmp 59) rfl w.heap.size zm rfl rfl 27 _ HX3.out (by rw [zm_size]; exact info35) rfl hzone ?_))
      refine bodyPost_ret (results_cell_one rfl _ _ _ _ rfl (loadVar35 (HEND.out _ rfl).1 zm_size)) rfl ?_
      exact ⟨Or.inr ⟨HDN.out, rfl⟩, (HEND.out _ rfl).2⟩
    have d5 : ((N : Int) == 0) = false := by simp [hz]
    by_cases hq : R = T
    · have d6 : ((R : Int) == (T : Int)) = true := by simp [hq]
      have d7 : (R == T) = true := by simp [hq]
      have d8 : ((R : Int) != (T : Int)) = false := by simp [hq]
      have hin := Mf.cnt_in (show Mf.cnt s0 c0 ≠ 0 by rw [HN.out]; exact hz)
      have es : s0 = sz := HS0.out hin.1
      have ec : c0 = ch := HC0.out hin.2.2.1
      subst es ec
      have HDEC : Hid (Mf.dec l = some ⟨s0, c0, Mf.cut (l.drop J) N, (l.drop J).drop (32 * N)⟩) := Lib.hid (by
        rw [HJK.out.2]; unfold Mf.decR
        rw [if_neg (by rw [HN.out, HRL.out]; have := HTT.out; omega), HN.out])
      have HBR : Hid (Byt (l.drop J)) := Lib.hid (byt_drop HBY.out J)
      generalize l.drop J = q at *
      have hwl : (q.drop (32 * N)).take 32 = q.drop (32 * N) := List.take_of_length_le (by rw [List.length_drop, HRL.out]; have := HTT.out; omega)
      have HWD : Hid (Dig (q.drop (32 * N))) := Lib.hid ⟨by rw [List.length_drop, HRL.out]; have := HTT.out; omega, byt_drop HBR.out _⟩
      have hmone := mcs_one (s := s0) (c := c0) (v := .slice none 0 0) (h := q.drop (32 * N)) rfl
      have hMS := msize (s := s0) (c := c0) (v := .slice none 0 0) HWD.out.1
      have HBT := Lib.hid (built_szw s0 c0 (q.drop (32 * N)) HWD.out.1)
      have HWL := Lib.hid hwl
      have HTR2 : Hid (32 * (N + 1) = R) := Lib.hid (by have := HTT.out; omega)
      clear hwl hin HTT hq
      have HTT := HTR2
      clear HTR2
      obtain ⟨ML, hML⟩ : ∃ ML, mcs s0 c0 (.slice none 0 0) (q.drop (32 * N)) = ML := ⟨_, rfl⟩
      rw [hML] at hmone hMS HBT
      have HM := Lib.hid hML
      clear hML
      go_wp2_with fail
      refine (rh_any (i := N) (HTR.out.below HB3.out (fun _ _ h => h)) (by have := HTT.out; omega) hRn).mono ?_
      rintro e w5 ⟨rfl, hb5⟩
      rw [HWL.out]
      have hlx3 := HX3.out.lt
      have HB5 := Lib.hid (HB3.out.trans (hb5.mono HB3.out.size))
      have HX5 := Lib.hid (HX3.out.below hb5 hlx3)
      have hlx5 : w.heap.size < w5.heap.size := HX5.out.lt
      clear hb5 HB3 HX3 HEND hlx3
      go_wp2_with (first
        | ((with_reducible show wpList _ _ _ ((⟨_, Op.build 27 _, _, _, _, _⟩ : Oper) :: _) _ _); refine wpList_built rfl _ rfl _ rfl ML HBT.out ?_)
        | ((with_reducible show wpList _ _ _ ((⟨_, Op.store 27 _ _, _, _, _, _⟩ : Oper) :: _) _ _); rw [zeroM, show (mcs 0 0 (.slice none 0 0) (zs 32)).toArray = zm from rfl]; refine wpList_store_row rfl _ (.tmp 10) (.tmp 65) rfl w5.heap.size ML.toArray rfl rfl 27 _ (Whole.new w5 _ _) (by rw [hMS]; exact info35) (by rw [hMS]; rfl) hmone ?_))
      have HG0 : Hid (Gst w ((w5.alloc (.cells zm 27)).setRow w5.heap.size ML.toArray).heap.size w.heap.size w5.heap.size s0 c0 (q.drop (32 * N)) q 0 (.slice none 0 0) ((w5.alloc (.cells zm 27)).setRow w5.heap.size ML.toArray)) := Lib.hid
        ⟨by rw [HM.out]; exact put_row, World.ownsRow_nil _ _ _ _, put_far HX5.out, put_below HB5.out HB5.out.size, Nat.le_refl _, ⟨Nat.le_refl _, hlx5, by rw [put_size]; omega⟩⟩
      clear HX5 HB5 hmone hMS HBT HM
      generalize (w5.alloc (.cells zm 27)).setRow w5.heap.size ML.toArray = w6 at *
      generalize w5.heap.size = M at *
      generalize w6.heap.size = Bo at *
      clear hA1 HT1 d1 d2 d3 d4 d5 d6 d7 d8 hJ' hT1 hTn HG1 HG2 HDG HI HJK HS0 HC0 hjk hjn
      go_loopw [11] (fun i wr => ∃ (k : Nat) (v : Value), k ≤ N ∧ i = .int .i64 (k : Int) ∧ Hid (Gst w Bo w.heap.size M s0 c0 (q.drop (32 * N)) q k v wr)) (fun i _ => N - (intOf i).toNat)
      case atStart => exact ⟨0, _, Nat.zero_le _, rfl, HG0⟩
      case round =>
        clear HG0
        obtain ⟨k, v, hk, rfl, HK⟩ := hrel
        obtain ⟨vq, cap, rfl⟩ := Co.own_form HK.out.own
        by_cases hlt : k < N
        · have HB0 := Lib.hid (HK.out.below (w' := wr.drew) (Below.refl _ _).drew)
          have x0 : wr.drew.cell? ⟨M, 2, none⟩ = some (.slice vq k cap) := HB0.out.m.cell 2
          have HDK : Hid (Dig ((q.drop (32 * k)).take 32)) := Lib.hid ⟨by rw [List.length_take, List.length_drop, HRL.out]; have := HTT.out; omega, byt_take (byt_drop HBR.out _) _⟩
          have HFL : Hid ((Mf.cut q (k + 1)).flatten = (Mf.cut q k).flatten ++ (q.drop (32 * k)).take 32) := Lib.hid (by rw [Mf.cut_succ]; simp)
          have h32 : 32 * k + 32 ≤ R := by have := HTT.out; omega
          clear HK
          go_wp2
          refine wp_region_held_drew (S := fun _ => True) (by kernel_rfl) trivial (fun hHeld => ?_)
          generalize wr.drew = v0 at *
          refine wpAnyH_take (i := 0) (v := .pointer (some ⟨M, 2, none⟩)) rfl (by kernel_rfl) (by kernel_rfl) (by kernel_rfl) (fun _ _ _ h => h) (Or.inl ⟨by rfl, (by intro w hSw; (try dsimp only at hSw); go_simp)⟩) (by assumption) ?_
          try simp only [Act.put, List.getElem_toArray, List.getElem_cons_zero, List.getElem_cons_succ, List.setIfInBounds_toArray, List.set_cons_zero, List.set_cons_succ]
          refine wpAnyH_take (i := 2) (v := .slice AR R (c - J)) rfl (by kernel_rfl) (by kernel_rfl) (by kernel_rfl) (fun _ _ _ h => h) (Or.inl ⟨by rfl, (by intro w hSw; (try dsimp only at hSw); go_simp)⟩) (by assumption) ?_
          try simp only [Act.put, List.getElem_toArray, List.getElem_cons_zero, List.getElem_cons_succ, List.setIfInBounds_toArray, List.set_cons_zero, List.set_cons_succ]
          refine wpAnyH_take (i := 3) (v := .int .i64 (k : Int)) rfl (by kernel_rfl) (by kernel_rfl) (by kernel_rfl) (fun _ _ _ h => h) (Or.inl ⟨by rfl, (by intro w hSw; (try dsimp only at hSw); go_simp)⟩) (by assumption) ?_
          try simp only [Act.put, List.getElem_toArray, List.getElem_cons_zero, List.getElem_cons_succ, List.setIfInBounds_toArray, List.set_cons_zero, List.set_cons_succ]
          refine wpAnyH_ready (rs := [1, 4]) (by kernel_rfl) (by simp) (AllReadyH.cons rfl (fun K hK => ?_) (AllReadyH.cons rfl (fun K hK => ?_) AllReadyH.nil))
          · skip
            try simp only [List.getElem_toArray, List.getElem_cons_zero, List.getElem_cons_succ]
            go_simp
            refine hK.out _ _ trivial (fun hHeld => ?_)
            clear hK K
            try simp only [Act.put, List.getElem_toArray, List.getElem_cons_zero, List.getElem_cons_succ, List.setIfInBounds_toArray, List.set_cons_zero, List.set_cons_succ]
            refine wpAnyH_ready (rs := [4]) (by kernel_rfl) (by simp) (AllReadyH.cons rfl (fun K hK => ?_) AllReadyH.nil)
            try simp only [List.getElem_toArray, List.getElem_cons_zero, List.getElem_cons_succ]
            go_simp
            go_at_call 48
            refine (rh_any (HTR.out.below HB0.out.b (fun _ _ h => h)) h32 hRn).mono ?_
            rintro e v1 ⟨rfl, hgr⟩
            have HB1 := Lib.hid (HB0.out.below hgr)
            have x1 : v1.cell? ⟨M, 2, none⟩ = some (.slice vq k cap) := HB1.out.m.cell 2
            clear hgr
            go_wp2_with fail
            refine hK.out _ _ trivial (fun hHeld => ?_)
            clear hK K
            try simp only [Act.put, List.getElem_toArray, List.getElem_cons_zero, List.getElem_cons_succ, List.setIfInBounds_toArray, List.set_cons_zero, List.set_cons_succ]
            refine wpAnyH_ready (rs := [5]) (by kernel_rfl) (by simp) (AllReadyH.cons rfl (fun K hK => ?_) AllReadyH.nil)
            try simp only [List.getElem_toArray, List.getElem_cons_zero, List.getElem_cons_succ]
            refine if_wanted (by rfl) ?_
            refine wp_buildD 75 rfl _ HDK.out.1 rfl ?_
            have HB2 := Lib.hid (HB1.out.below (below_alloc v1 (.cells (nums ((q.drop (32 * k)).take 32)).toArray 25)))
            have KD2 := Lib.hid (Whole.new v1 25 (nums ((q.drop (32 * k)).take 32)).toArray)
            have x2 : (v1.alloc (.cells (nums ((q.drop (32 * k)).take 32)).toArray 25)).cell? ⟨M, 2, none⟩ = some (.slice vq k cap) := HB2.out.m.cell 2
            generalize v1.alloc (.cells (nums ((q.drop (32 * k)).take 32)).toArray 25) = v2 at *
            generalize v1.heap.size = DD at *
            refine hK.out _ _ trivial (fun hHeld => ?_)
            clear hK K
            try simp only [Act.put, List.getElem_toArray, List.getElem_cons_zero, List.getElem_cons_succ, List.setIfInBounds_toArray, List.set_cons_zero, List.set_cons_succ]
            refine wpAnyH_ready (rs := [6]) (by kernel_rfl) (by simp) (AllReadyH.cons rfl (fun K hK => ?_) AllReadyH.nil)
            try simp only [List.getElem_toArray, List.getElem_cons_zero, List.getElem_cons_succ]
            refine if_wanted (by rfl) ?_
            refine wp_append_digs _ (.tmp 72) (.tmp 76) rfl Bo _ k _ rfl HB2.out.own (fun _ => True) (some ⟨DD, 0, none⟩) 1 1 [((q.drop (32 * k)).take 32)] rfl (digs_one KD2.out trivial HDK.out) (by omega) (by omega) HB2.out.hb ?_
            intro s' v3 hown hg _
            rw [← nums_append, show (Mf.cut q k).flatten ++ [((q.drop (32 * k)).take 32)].flatten = (Mf.cut q (k + 1)).flatten by rw [HFL.out]; simp] at hown
            have KM := Lib.hid (HB2.out.m.grown hg (fun e => by have h1 := own_ge HB2.out.own _ e.symm; have h2 := HB2.out.lt; omega))
            have x3 : v3.cell? ⟨M, 2, none⟩ = some (.slice vq k cap) := KM.out.cell 2
            have f3 : v3.frozen? ⟨M, 2, none⟩ = false := KM.out.frozen 2
            obtain ⟨q', cap', rfl⟩ := Co.own_form hown
            have HS := Lib.hid (HB2.out.stored hg hown)
            clear hown hg
            refine hK.out _ _ trivial (fun hHeld => ?_)
            clear hK K
            try simp only [Act.put, List.getElem_toArray, List.getElem_cons_zero, List.getElem_cons_succ, List.setIfInBounds_toArray, List.set_cons_zero, List.set_cons_succ]
            refine wpAnyH_take (i := 7) (v := .pointer (some ⟨M, 2, none⟩)) rfl (by kernel_rfl) (by kernel_rfl) (by kernel_rfl) (fun _ _ _ h => h) (Or.inl ⟨by rfl, (by intro w hSw; (try dsimp only at hSw); go_simp)⟩) (by assumption) ?_
            try simp only [Act.put, List.getElem_toArray, List.getElem_cons_zero, List.getElem_cons_succ, List.setIfInBounds_toArray, List.set_cons_zero, List.set_cons_succ]
            refine wpAnyH_ready (rs := [8]) (by kernel_rfl) (by simp) (AllReadyH.cons rfl (fun K hK => ?_) AllReadyH.nil)
            try simp only [List.getElem_toArray, List.getElem_cons_zero, List.getElem_cons_succ]
            go_simp
            refine hK.out _ _ trivial (fun hHeld => ?_)
            clear hK K
            try simp only [Act.put, List.getElem_toArray, List.getElem_cons_zero, List.getElem_cons_succ, List.setIfInBounds_toArray, List.set_cons_zero, List.set_cons_succ]
            refine wpAnyH_done (by kernel_rfl) ?_ _
            generalize v3.setCell ⟨M, 2, none⟩ (.slice q' (k + 1) cap') = w7 at *
            clear x3 f3 KM
            go_wp2
            exact ⟨⟨k + 1, _, by omega, by go_num, HS⟩, by simp [intOf]; omega⟩
          · skip
            try simp only [List.getElem_toArray, List.getElem_cons_zero, List.getElem_cons_succ]
            go_simp
            go_at_call 48
            refine (rh_any (HTR.out.below HB0.out.b (fun _ _ h => h)) h32 hRn).mono ?_
            rintro e v1 ⟨rfl, hgr⟩
            have HB1 := Lib.hid (HB0.out.below hgr)
            have x1 : v1.cell? ⟨M, 2, none⟩ = some (.slice vq k cap) := HB1.out.m.cell 2
            clear hgr
            go_wp2_with fail
            refine hK.out _ _ trivial (fun hHeld => ?_)
            clear hK K
            try simp only [Act.put, List.getElem_toArray, List.getElem_cons_zero, List.getElem_cons_succ, List.setIfInBounds_toArray, List.set_cons_zero, List.set_cons_succ]
            refine wpAnyH_ready (rs := [1, 5]) (by kernel_rfl) (by simp) (AllReadyH.cons rfl (fun K hK => ?_) (AllReadyH.cons rfl (fun K hK => ?_) AllReadyH.nil))
            · skip
              try simp only [List.getElem_toArray, List.getElem_cons_zero, List.getElem_cons_succ]
              go_simp
              refine hK.out _ _ trivial (fun hHeld => ?_)
              clear hK K
              try simp only [Act.put, List.getElem_toArray, List.getElem_cons_zero, List.getElem_cons_succ, List.setIfInBounds_toArray, List.set_cons_zero, List.set_cons_succ]
              refine wpAnyH_ready (rs := [5]) (by kernel_rfl) (by simp) (AllReadyH.cons rfl (fun K hK => ?_) AllReadyH.nil)
              try simp only [List.getElem_toArray, List.getElem_cons_zero, List.getElem_cons_succ]
              refine if_wanted (by rfl) ?_
              refine wp_buildD 75 rfl _ HDK.out.1 rfl ?_
              have HB2 := Lib.hid (HB1.out.below (below_alloc v1 (.cells (nums ((q.drop (32 * k)).take 32)).toArray 25)))
              have KD2 := Lib.hid (Whole.new v1 25 (nums ((q.drop (32 * k)).take 32)).toArray)
              have x2 : (v1.alloc (.cells (nums ((q.drop (32 * k)).take 32)).toArray 25)).cell? ⟨M, 2, none⟩ = some (.slice vq k cap) := HB2.out.m.cell 2
              generalize v1.alloc (.cells (nums ((q.drop (32 * k)).take 32)).toArray 25) = v2 at *
              generalize v1.heap.size = DD at *
              refine hK.out _ _ trivial (fun hHeld => ?_)
              clear hK K
              try simp only [Act.put, List.getElem_toArray, List.getElem_cons_zero, List.getElem_cons_succ, List.setIfInBounds_toArray, List.set_cons_zero, List.set_cons_succ]
              refine wpAnyH_ready (rs := [6]) (by kernel_rfl) (by simp) (AllReadyH.cons rfl (fun K hK => ?_) AllReadyH.nil)
              try simp only [List.getElem_toArray, List.getElem_cons_zero, List.getElem_cons_succ]
              refine if_wanted (by rfl) ?_
              refine wp_append_digs _ (.tmp 72) (.tmp 76) rfl Bo _ k _ rfl HB2.out.own (fun _ => True) (some ⟨DD, 0, none⟩) 1 1 [((q.drop (32 * k)).take 32)] rfl (digs_one KD2.out trivial HDK.out) (by omega) (by omega) HB2.out.hb ?_
              intro s' v3 hown hg _
              rw [← nums_append, show (Mf.cut q k).flatten ++ [((q.drop (32 * k)).take 32)].flatten = (Mf.cut q (k + 1)).flatten by rw [HFL.out]; simp] at hown
              have KM := Lib.hid (HB2.out.m.grown hg (fun e => by have h1 := own_ge HB2.out.own _ e.symm; have h2 := HB2.out.lt; omega))
              have x3 : v3.cell? ⟨M, 2, none⟩ = some (.slice vq k cap) := KM.out.cell 2
              have f3 : v3.frozen? ⟨M, 2, none⟩ = false := KM.out.frozen 2
              obtain ⟨q', cap', rfl⟩ := Co.own_form hown
              have HS := Lib.hid (HB2.out.stored hg hown)
              clear hown hg
              refine hK.out _ _ trivial (fun hHeld => ?_)
              clear hK K
              try simp only [Act.put, List.getElem_toArray, List.getElem_cons_zero, List.getElem_cons_succ, List.setIfInBounds_toArray, List.set_cons_zero, List.set_cons_succ]
              refine wpAnyH_take (i := 7) (v := .pointer (some ⟨M, 2, none⟩)) rfl (by kernel_rfl) (by kernel_rfl) (by kernel_rfl) (fun _ _ _ h => h) (Or.inl ⟨by rfl, (by intro w hSw; (try dsimp only at hSw); go_simp)⟩) (by assumption) ?_
              try simp only [Act.put, List.getElem_toArray, List.getElem_cons_zero, List.getElem_cons_succ, List.setIfInBounds_toArray, List.set_cons_zero, List.set_cons_succ]
              refine wpAnyH_ready (rs := [8]) (by kernel_rfl) (by simp) (AllReadyH.cons rfl (fun K hK => ?_) AllReadyH.nil)
              try simp only [List.getElem_toArray, List.getElem_cons_zero, List.getElem_cons_succ]
              go_simp
              refine hK.out _ _ trivial (fun hHeld => ?_)
              clear hK K
              try simp only [Act.put, List.getElem_toArray, List.getElem_cons_zero, List.getElem_cons_succ, List.setIfInBounds_toArray, List.set_cons_zero, List.set_cons_succ]
              refine wpAnyH_done (by kernel_rfl) ?_ _
              generalize v3.setCell ⟨M, 2, none⟩ (.slice q' (k + 1) cap') = w7 at *
              clear x3 f3 KM
              go_wp2
              exact ⟨⟨k + 1, _, by omega, by go_num, HS⟩, by simp [intOf]; omega⟩
            · skip
              try simp only [List.getElem_toArray, List.getElem_cons_zero, List.getElem_cons_succ]
              refine if_wanted (by rfl) ?_
              refine wp_buildD 75 rfl _ HDK.out.1 rfl ?_
              have HB2 := Lib.hid (HB1.out.below (below_alloc v1 (.cells (nums ((q.drop (32 * k)).take 32)).toArray 25)))
              have KD2 := Lib.hid (Whole.new v1 25 (nums ((q.drop (32 * k)).take 32)).toArray)
              have x2 : (v1.alloc (.cells (nums ((q.drop (32 * k)).take 32)).toArray 25)).cell? ⟨M, 2, none⟩ = some (.slice vq k cap) := HB2.out.m.cell 2
              generalize v1.alloc (.cells (nums ((q.drop (32 * k)).take 32)).toArray 25) = v2 at *
              generalize v1.heap.size = DD at *
              refine hK.out _ _ trivial (fun hHeld => ?_)
              clear hK K
              try simp only [Act.put, List.getElem_toArray, List.getElem_cons_zero, List.getElem_cons_succ, List.setIfInBounds_toArray, List.set_cons_zero, List.set_cons_succ]
              refine wpAnyH_ready (rs := [1]) (by kernel_rfl) (by simp) (AllReadyH.cons rfl (fun K hK => ?_) AllReadyH.nil)
              try simp only [List.getElem_toArray, List.getElem_cons_zero, List.getElem_cons_succ]
              go_simp
              refine hK.out _ _ trivial (fun hHeld => ?_)
              clear hK K
              try simp only [Act.put, List.getElem_toArray, List.getElem_cons_zero, List.getElem_cons_succ, List.setIfInBounds_toArray, List.set_cons_zero, List.set_cons_succ]
              refine wpAnyH_ready (rs := [6]) (by kernel_rfl) (by simp) (AllReadyH.cons rfl (fun K hK => ?_) AllReadyH.nil)
              try simp only [List.getElem_toArray, List.getElem_cons_zero, List.getElem_cons_succ]
              refine if_wanted (by rfl) ?_
              refine wp_append_digs _ (.tmp 72) (.tmp 76) rfl Bo _ k _ rfl HB2.out.own (fun _ => True) (some ⟨DD, 0, none⟩) 1 1 [((q.drop (32 * k)).take 32)] rfl (digs_one KD2.out trivial HDK.out) (by omega) (by omega) HB2.out.hb ?_
              intro s' v3 hown hg _
              rw [← nums_append, show (Mf.cut q k).flatten ++ [((q.drop (32 * k)).take 32)].flatten = (Mf.cut q (k + 1)).flatten by rw [HFL.out]; simp] at hown
              have KM := Lib.hid (HB2.out.m.grown hg (fun e => by have h1 := own_ge HB2.out.own _ e.symm; have h2 := HB2.out.lt; omega))
              have x3 : v3.cell? ⟨M, 2, none⟩ = some (.slice vq k cap) := KM.out.cell 2
              have f3 : v3.frozen? ⟨M, 2, none⟩ = false := KM.out.frozen 2
              obtain ⟨q', cap', rfl⟩ := Co.own_form hown
              have HS := Lib.hid (HB2.out.stored hg hown)
              clear hown hg
              refine hK.out _ _ trivial (fun hHeld => ?_)
              clear hK K
              try simp only [Act.put, List.getElem_toArray, List.getElem_cons_zero, List.getElem_cons_succ, List.setIfInBounds_toArray, List.set_cons_zero, List.set_cons_succ]
              refine wpAnyH_take (i := 7) (v := .pointer (some ⟨M, 2, none⟩)) rfl (by kernel_rfl) (by kernel_rfl) (by kernel_rfl) (fun _ _ _ h => h) (Or.inl ⟨by rfl, (by intro w hSw; (try dsimp only at hSw); go_simp)⟩) (by assumption) ?_
              try simp only [Act.put, List.getElem_toArray, List.getElem_cons_zero, List.getElem_cons_succ, List.setIfInBounds_toArray, List.set_cons_zero, List.set_cons_succ]
              refine wpAnyH_ready (rs := [8]) (by kernel_rfl) (by simp) (AllReadyH.cons rfl (fun K hK => ?_) AllReadyH.nil)
              try simp only [List.getElem_toArray, List.getElem_cons_zero, List.getElem_cons_succ]
              go_simp
              refine hK.out _ _ trivial (fun hHeld => ?_)
              clear hK K
              try simp only [Act.put, List.getElem_toArray, List.getElem_cons_zero, List.getElem_cons_succ, List.setIfInBounds_toArray, List.set_cons_zero, List.set_cons_succ]
              refine wpAnyH_done (by kernel_rfl) ?_ _
              generalize v3.setCell ⟨M, 2, none⟩ (.slice q' (k + 1) cap') = w7 at *
              clear x3 f3 KM
              go_wp2
              exact ⟨⟨k + 1, _, by omega, by go_num, HS⟩, by simp [intOf]; omega⟩
        · obtain rfl : k = N := by omega
          have hPs := msize (s := s0) (c := c0) (v := .slice vq k cap) HWD.out.1
          have hPa := mcs_one (s := s0) (c := c0) (v := .slice vq k cap) (h := q.drop (32 * k)) rfl
          obtain ⟨P, hP⟩ : ∃ P, (mcs s0 c0 (.slice vq k cap) (q.drop (32 * k))).toArray = P := ⟨_, rfl⟩
          have KM := Lib.hid HK.out.m
          rw [hP] at hPs hPa KM
          have HP := Lib.hid hP
          clear hP
          have HZS := zm_size
          go_wp2_with (first
            | ((with_reducible show wpList _ _ _ ((⟨_, Op.load 27 _, _, _, _, _⟩ : Oper) :: _) _ _); refine wpList_load_row rfl _ (.tmp 10) rfl M rfl 27 P (0, 0) _ KM.out Tryd.underlying27 rfl (by rw [hPs]; exact info35) ?_)
            | ((with_reducible show wpList _ _ _ ((⟨_, Op.store 27 _ _, _, _, _, _⟩ : Oper) :: _) _ _); refine wpList_store_row rfl _ (.tmp 2) (.tmp 79) rfl w.heap.size P rfl rfl 27 _ HK.out.x (by rw [hPs]; exact info35) (by rw [HZS, hPs]) hPa ?_))
          refine bodyPost_ret (results_cell_one rfl _ _ _ _ rfl (loadVar35 (HK.out.x.row P) hPs)) rfl ?_
          have hl := HK.out.lt
          have hcok := Mf.cut_ok HBR.out (show 32 * k ≤ q.length by rw [HRL.out]; have := HTT.out; omega)
          obtain ⟨aq, cq, hq', hqc, hdg⟩ := own_digs HK.out.own hcok (Mf.cut_len q k)
          injection hq' with hq1 _ hq3
          subst hq1 hq3
          refine ⟨Or.inl ⟨_, _, HDEC.out, rfl, ?_⟩, below_row HK.out.b (Nat.le_refl _) _⟩
          refine ⟨vq, k, cap, by rw [← HP.out], hqc, ?_, HWD.out, ⟨by show (-9223372036854775808 : Int) ≤ s0; omega, by show s0 ≤ 9223372036854775807; omega⟩, ⟨by show (-9223372036854775808 : Int) ≤ c0; omega, by show c0 ≤ 9223372036854775807; omega⟩⟩
          exact (hdg.keep (w' := wr.setRow w.heap.size P) (by simp [World.setRow]) (fun b _ hb => setRow_other wr w.heap.size b P (by omega))).weak (fun b _ hb => by show w.heap.size ≤ b; omega)
    · have d6 : ((R : Int) == (T : Int)) = false := by simp; omega
      have d7 : (R == T) = false := by simp; omega
      have d8 : ((R : Int) != (T : Int)) = true := by simp; omega
      have HDN : Hid (Mf.dec l = none) := Lib.hid (by
        rw [HJK.out.2]; unfold Mf.decR
        rw [if_pos (Or.inr (by rw [HN.out, HRL.out]; have := HTT.out; omega))])
      go_wp2_with (first | ((with_reducible show wpList _ _ _ ((⟨_, Op.build 27 _, _, _, _, _⟩ : Oper) :: _) _ _); refine wpList_built rfl _ rfl _ rfl _ built_nil ?_) | ((with_reducible show wpList _ _ _ ((⟨_, Op.store 27 _ _, _, _, _, _⟩ : Oper) :: _) _ _); refine wpList_store_row rfl _ (.tmp 2) (.tmp 59) rfl w.heap.size zm rfl rfl 27 _ HX3.out (by rw [zm_size]; exact info35) rfl hzone ?_))
      refine bodyPost_ret (results_cell_one rfl _ _ _ _ rfl (loadVar35 (HEND.out _ rfl).1 zm_size)) rfl ?_
      exact ⟨Or.inr ⟨HDN.out, rfl⟩, (HEND.out _ rfl).2⟩
end Go.Proofs.YtdjibhpjdhpcgaaDoor
