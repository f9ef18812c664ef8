/-
  The walks of the document's Same (of one list) and Pick.
-/
import Derived.Test.YtiogfkhmigbgpaaDoorXb
namespace Go.Proofs.YtiogfkhmigbgpaaDoor
open Go.RowKit Go.Great
set_option linter.unusedVariables false
set_option linter.unusedSimpArgs false
set_option maxRecDepth 20000
set_option maxHeartbeats 4000000 in
theorem rbsame_any {w : World} {S S' : Nat → Prop} {a b : Option Addr} {n c d : Nat} {l : List Bool} (h : BE.Row w S a n l) (h' : BE.Row w S' b n l) (hn : n ≤ 1000000) :
    Calls Tryd.prog 16 #[.slice a n c, .slice b n d] w fun e w' => e = .returned (.bool true) ∧ Below w.heap.size w w' := by
  have H0 : Hid (BE.Row w S a n l ∧ BE.Row w S' b n l ∧ ∃ q, w = w.drewN q) := Lib.hid ⟨h, h', 0, rfl⟩
  clear h h'
  have q0' : ((n : Int) != (n : Int)) = false := by simp
  go_enter Tryd.func16, Tryd.ntmps16
  go_wp2
  go_loopw [5] (fun v wr => ∃ k : Nat, k ≤ n ∧ v = .int .i64 (k : Int) ∧ Hid (BE.Row wr S a n l ∧ BE.Row wr S' b n l ∧ ∃ q, wr = w.drewN q)) (fun v _ => n - (intOf v).toNat)
  case atStart => exact ⟨0, Nat.zero_le _, rfl, H0⟩
  case round =>
    clear H0
    obtain ⟨k, hk, rfl, HB⟩ := hrel
    by_cases hlt : k < n
    · obtain ⟨x, hx⟩ : ∃ x, l.getD k false = x := ⟨_, rfl⟩
      obtain ⟨ga, oa, ha, _, _, ca⟩ := be_cells HB.out.1 (by omega)
      obtain ⟨gb, ob, hb, _, _, cb⟩ := be_cells HB.out.2.1 (by omega)
      have ca' : wr.cell? ⟨ga, oa + k, none⟩ = some (.bool x) := by rw [ca k hlt, hx]
      have cb' : wr.cell? ⟨gb, ob + k, none⟩ = some (.bool x) := by rw [cb k hlt, hx]
      subst ha hb
      have q1 : (k : Int) < (n : Int) := by omega
      have q2 : (x != x) = false := by simp
      clear ca cb hx
      go_wp2
      go_quiet (fail)
      go_wp2
      go_roundw
      case rel => exact ⟨k + 1, by omega, by go_num, Lib.hid ⟨HB.out.1.keep (Nat.le_refl _) (fun _ _ _ => rfl), HB.out.2.1.keep (Nat.le_refl _) (fun _ _ _ => rfl), by obtain ⟨q, hq⟩ := HB.out.2.2; exact ⟨q + nq, by rw [hq]; simp [World.drewN, Nat.add_assoc]⟩⟩⟩
      case measure => simp [intOf]; omega
    · have q1 : ¬ ((k : Int) < (n : Int)) := by omega
      go_wp2
      go_ret
      obtain ⟨q, hq⟩ := HB.out.2.2
      exact ⟨rfl, by rw [hq]; exact ⟨rfl, rfl, rfl, Nat.le_refl _, fun _ _ => rfl⟩⟩
theorem ring_spelled (X n i : Nat) (h0 : 0 < n) (hn : n ≤ 1000) (hi : i < n) : wrap64 ((IntKind.u64.wrap ((X : Int) % (n : Int) + (i : Int))).tmod (n : Int)) = (((X % n + i) % n : Nat) : Int) := by
  have h1 : X % n < n := Nat.mod_lt _ h0
  have e1 : (X : Int) % (n : Int) + (i : Int) = ((X % n + i : Nat) : Int) := by rw [Int.natCast_add, Int.natCast_emod]
  have h2 : (X % n + i) % n < n := Nat.mod_lt _ h0
  rw [e1]
  generalize X % n + i = y at *
  have e2 : IntKind.u64.wrap (y : Int) = (y : Int) := by rw [IntKind.wrap_u64]; omega
  rw [e2, Int.tmod_eq_emod_of_nonneg (by omega), ← Int.natCast_emod]
  unfold wrap64
  have : y % n < 1000 := by omega
  generalize y % n = z at *
  omega
set_option maxHeartbeats 8000000 in
theorem rpick_any {w : World} {S S' : Nat → Prop} {a b : Option Addr} {n c m c' : Nat} {hv : List Bool} {ps : List (List Bool)} (h : BE.Row w S a n hv) (h' : Bns w S' b m ps) (hn : n ≤ 1000) (hm : m ≤ 1000) (d : Int) (hd0 : 0 ≤ d) (hd : d < 18446744073709551616) :
    Calls Tryd.prog 10 #[.slice a n c, .slice b m c', .int .u64 d] w fun e w' => e = .returned (.tuple #[.int .i64 (Tr.pick hv ps d).1, .int .i64 (Tr.pick hv ps d).2.1, .bool (Tr.pick hv ps d).2.2]) ∧ w = w' := by
  obtain ⟨D, rfl⟩ : ∃ D : Nat, d = (D : Int) := ⟨d.toNat, by omega⟩
  have H := Lib.hid (And.intro h h')
  have HN := Lib.hid (And.intro h.1 h'.1)
  obtain ⟨r, hr⟩ : ∃ r, Tr.pick hv ps (D : Int) = r := ⟨_, rfl⟩
  rw [hr]
  have HR := Lib.hid hr
  obtain ⟨P, hP⟩ : ∃ P : Nat → Bool, (fun c => !hv.getD c false && Tr.some_ ps c) = P := ⟨_, rfl⟩
  have HP := Lib.hid hP
  have HD : Hid (D < 18446744073709551616) := Lib.hid (by omega)
  clear h h' hr hP hd0 hd
  go_enter Tryd.func10, Tryd.ntmps10
  go_wp2
  go_loop [11, 12, 13, 14, 15, 16] (fun v _ _ _ _ _ => ∃ i : Nat, i ≤ n ∧ v = .int .u64 (i : Int) ∧ Hid (∀ k, k < i → P ((D % n + k) % n) = false)) (fun v _ _ _ _ _ => n - (intOf v).toNat)
  case atStart => exact ⟨0, Nat.zero_le _, rfl, Lib.hid (fun i hi => by omega)⟩
  case round =>
    obtain ⟨i, hi, rfl, HJ⟩ := hrel
    by_cases hlt : i < n
    case neg =>
      have q : ¬ ((i : Int) < (n : Int)) := by omega
      have HE : Hid (r = (0, 0, false)) := Lib.hid (by
        rw [← HR.out]
        unfold Tr.pick
        have := Tr.first_end (n := n) (s := D % n) (P := P) (fun k hk => HJ.out k (by omega))
        rw [HN.out.1, Int.toNat_natCast, HP.out, this])
      go_wp2
      go_ret3
      rw [HE.out]
      exact ⟨rfl, rfl⟩
    have q : (i : Int) < (n : Int) := by omega
    have hn0 : (0 : Int) < (n : Int) := by omega
    go_wp2_with fail
    rw [ring_spelled D n i (by omega) hn hlt]
    have hc : (D % n + i) % n < n := Nat.mod_lt _ (by omega)
    obtain ⟨x, hx⟩ : ∃ x, (D % n + i) % n = x := ⟨_, rfl⟩
    have HX := Lib.hid hx
    rw [hx] at hc ⊢
    clear hx
    refine (rsome_any H.out.2 (by omega) x).mono ?_
    rintro e w' ⟨rfl, rfl⟩
    obtain ⟨ga, oa, rfl, _, _, hcell⟩ := be_cells H.out.1 (by omega)
    have cx := hcell x hc
    obtain ⟨y, hy⟩ : ∃ y, hv.getD x false = y := ⟨_, rfl⟩
    obtain ⟨z, hz⟩ : ∃ z, Tr.some_ ps x = z := ⟨_, rfl⟩
    rw [hy] at cx
    rw [hz]
    have HPX : Hid (P x = (!y && z)) := Lib.hid (by rw [← HP.out, ← hy, ← hz])
    have HZ := Lib.hid hz
    have q2 : (x : Int) < (n : Int) := by omega
    clear hcell hy hz hc
    have next : P x = false → Hid (∀ k, k < i + 1 → P ((D % n + k) % n) = false) := fun hf => Lib.hid (fun k hk => by
      by_cases hki : k < i
      · exact HJ.out k hki
      · obtain rfl : k = i := by omega
        rw [HX.out]; exact hf)
    cases y
    case true =>
      have HN1 := next (by rw [HPX.out]; rfl)
      clear next
      go_wp2
      exact ⟨⟨i + 1, by omega, by go_num, HN1⟩, by simp [intOf]; omega⟩
    cases z
    case false =>
      have HN1 := next (by rw [HPX.out]; rfl)
      clear next
      go_wp2
      exact ⟨⟨i + 1, by omega, by go_num, HN1⟩, by simp [intOf]; omega⟩
    clear next
    have HF : Hid (Tr.first n (D % n) P = some x) := Lib.hid (by rw [← HX.out]; exact Tr.first_at hlt HJ.out (by rw [HX.out, HPX.out]; rfl))
    clear HPX HJ HX
    go_wp2
    clear cx
    go_loop [14, 15, 16] (fun v _ _ => ∃ k : Nat, k ≤ m ∧ v = .int .u64 (k : Int) ∧ Hid (∀ j, j < k → Tr.has (ps.getD ((D / 4294967296 % m + j) % m) []) x = false)) (fun v _ _ => m - (intOf v).toNat)
    case atStart => exact ⟨0, Nat.zero_le _, rfl, Lib.hid (fun i hi => by omega)⟩
    case round =>
      obtain ⟨k, hk, rfl, HK⟩ := hrel
      have hkm : k < m := by
        apply Decidable.byContradiction
        intro hno
        obtain ⟨p, hp, hpx⟩ := Tr.some_of_at HZ.out
        rw [HN.out.2] at hp
        obtain ⟨j, hj, rfl⟩ := Tr.round (s := D / 4294967296 % m) hp
        rw [HK.out j (by omega)] at hpx
        cases hpx
      have qk : (k : Int) < (m : Int) := by omega
      go_upto_region 13 with fail
      have hq : (D : Int) / 4294967296 = ((D / 4294967296 : Nat) : Int) := by omega
      rw [hq, ring_spelled (D / 4294967296) m k (by omega) hm hkm]
      clear hq
      have hp : (D / 4294967296 % m + k) % m < m := Nat.mod_lt _ (by omega)
      obtain ⟨y, hy⟩ : ∃ y, (D / 4294967296 % m + k) % m = y := ⟨_, rfl⟩
      have HY := Lib.hid hy
      rw [hy] at hp ⊢
      clear hy
      obtain ⟨gb, ob, rfl, ad, mm, cm, ci, hrow⟩ := H.out.2.at_ hp
      have HW := Lib.hid hrow
      have q3 : (y : Int) < (m : Int) := by omega
      clear hrow hp
      go_wp2_with fail
      refine (rhas_any HW.out x).mono ?_
      rintro e w' ⟨rfl, rfl⟩
      obtain ⟨z, hz⟩ : ∃ z, Tr.has (ps.getD y []) x = z := ⟨_, rfl⟩
      rw [hz]
      have HZ2 := Lib.hid hz
      clear hz ci
      cases z
      · have HN1 : Hid (∀ j, j < k + 1 → Tr.has (ps.getD ((D / 4294967296 % m + j) % m) []) x = false) := Lib.hid (fun j hj => by
          by_cases hjk : j < k
          · exact HK.out j hjk
          · obtain rfl : j = k := by omega
            rw [HY.out]; exact HZ2.out)
        go_wp2
        exact ⟨⟨k + 1, by omega, by go_num, HN1⟩, by simp [intOf]; omega⟩
      · have HE : Hid (r = ((x : Int), (y : Int), true)) := Lib.hid (by
          rw [← HR.out]
          unfold Tr.pick
          have h2 := Tr.first_at (n := m) (s := D / 4294967296 % m) (P := fun p => Tr.has (ps.getD p []) x) hkm HK.out (by rw [HY.out]; exact HZ2.out)
          rw [HY.out] at h2
          rw [HN.out.1, HN.out.2, Int.toNat_natCast, HP.out, HF.out]
          dsimp only
          rw [h2])
        go_wp2
        go_ret3
        rw [HE.out]
        exact ⟨rfl, rfl⟩
end Go.Proofs.YtiogfkhmigbgpaaDoor
