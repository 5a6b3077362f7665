import Derived.Test.YtcdmmblnfdenfabDoorNatL
import Derived.Test.YtcdmmblnfdenfabDoorNatIn
namespace Go.Proofs.YtcdmmblnfdenfabDoor
open Go.ChangeShapes Go.WideShapes Go.ChangeAt Go.RowKit
set_option linter.unusedVariables false

theorem dlen_pow' (a k : Nat) : dlen (a * 2 ^ k) ≤ dlen a + k := by
  refine dlen_le_of_lt ?_
  rw [Nat.pow_add]
  have h1 := lt_of_dlen_le (Nat.le_refl (dlen a))
  have h2 : 2 ^ k ≤ 16777216 ^ k := Nat.pow_le_pow_left (by decide) k
  have h3 : 0 < 2 ^ k := Nat.pow_pos (by decide)
  exact Nat.lt_of_lt_of_le (Nat.mul_lt_mul_of_pos_right h1 h3) (Nat.mul_le_mul_left _ h2)
theorem top_facts (a u : Nat) (hu : 0 < u) : (blen a - u = 0 ∧ blen (a / 2 ^ (blen a - u)) ≤ u) ∨ (0 < blen a - u ∧ blen (a / 2 ^ (blen a - u)) = u) := by
  by_cases h : blen a ≤ u
  · left
    rw [show blen a - u = 0 by omega, Nat.pow_zero, Nat.div_one]
    exact ⟨rfl, h⟩
  · right
    refine ⟨by omega, ?_⟩
    have h1 : a / 2 ^ (blen a - u) ≠ 0 := fun h2 => by
      have h3 : a < 2 ^ (blen a - u) := by
        have := Nat.div_eq_zero_iff.1 h2
        have h4 : 0 < 2 ^ (blen a - u) := Nat.pow_pos (by decide)
        omega
      have := blen_le.2 h3
      omega
    have := blen_shift h1
    omega
set_option maxHeartbeats 4000000 in
theorem natShiftBack_walk (v1 : Value) (l1 : List Nat) (k : Int) (w : World) (a1 : ∀ x ∈ l1, x < 18446744073709551616) (r1 : RowU w v1 l1) (b1 : l1.length ≤ 1048576) (wk : (Lit.int .i64 k).wf = true) :
    Calls Tryd.prog 7 #[v1, .int .i64 k] w fun e w' => e = .returned (.bool true) ∧ Below w.heap.size w w' := by
  refine cps fun Q hQ => ?_
  have bk := bounds_i64 wk
  have hL : blen (uval l1) ≤ 67108864 := by
    have := blen_le.2 (uval_lt l1 a1)
    omega
  have d1 : dlen (uval l1) ≤ 3145728 := Nat.le_trans (dlen_uval l1 a1) (by omega)
  by_cases hneg : k < 0
  · have k2 := fun w h => natshl_neg v1 l1 k hneg w h
    have tf := top_facts (uval l1) 64 (by omega)
    have kt := fun w h => nattop_any v1 l1 a1 (by omega) 64 (by omega) (by omega) w h
    have ks := fun w h => natshr_any v1 l1 a1 (by omega) (blen (uval l1) - 64) (by omega) w h
    have hq : uval l1 / 2 ^ (blen (uval l1) - 64) < 18446744073709551616 := by
      have h1 : uval l1 < 2 ^ blen (uval l1) := blen_le.1 (Nat.le_refl _)
      have h2 : 2 ^ blen (uval l1) ≤ 2 ^ (blen (uval l1) - 64) * 18446744073709551616 := by
        rw [show (18446744073709551616 : Nat) = 2 ^ 64 by decide, ← Nat.pow_add]
        exact Nat.pow_le_pow_right (by decide) (by omega)
      exact Nat.div_lt_of_lt_mul (Nat.lt_of_lt_of_le h1 h2)
    have dq : dlen (uval l1 / 2 ^ (blen (uval l1) - 64)) ≤ 3145728 := Nat.le_trans (dlen_mono (Nat.div_le_self _ _)) d1
    generalize decide (uval l1 % 2 ^ (blen (uval l1) - 64) ≠ 0) = c at *
    generalize uval l1 / 2 ^ (blen (uval l1) - 64) = q at *
    generalize blen (uval l1) - 64 = n at *
    have ko := fun w => natof_any q hq w
    have bq : (lim q).length ≤ 3145728 := Nat.le_trans (lim_length q) dq
    have kc := fun va vb w h g => natcmp_any va vb (lim q) (lim q) (lim_mem q) (lim_mem q) (by omega) (by omega) w h g
    rw [cmpN_eq] at kc
    have kb := fun v w h => natbits_any v (lim q) (lim_mem q) (by omega) w h
    rw [uval_lim] at kb
    generalize blen q = B at *
    clear hq dq bq d1 a1 b1 wk
    rcases tf with ⟨t1, t2⟩ | ⟨t1, t2⟩
    · subst t1
      go_enter Tryd.func7, Tryd.ntmps7
      go_wp2_with (first
        | (have chk := hb6; clear chk; go_at_call 16; refine ((kb _) _ ((hr4a.below hb5).below hb6)).mono ?_; rintro e w7 ⟨rfl, hb7⟩)
        | (have chk := hb5; clear chk; go_at_call 19; refine ((kc _ _) _ (hr4a.below hb5) hr5a).mono ?_; rintro e w6 ⟨rfl, hb6⟩)
        | (have chk := hb4; clear chk; go_at_call 25; refine (ko _ ).mono ?_; rintro e w5 ⟨v5a, rfl, hr5a, hb5⟩)
        | (have chk := hb3; clear chk; go_at_call 23; refine (ks _ (((r1.below hb1).below hb2).below hb3)).mono ?_; rintro e w4 ⟨v4a, rfl, hr4a, hb4⟩)
        | (have chk := hb2; clear chk; go_at_call 24; refine (kt _ ((r1.below hb1).below hb2)).mono ?_; rintro e w3 ⟨rfl, hb3⟩)
        | (have chk := hb1; clear chk; go_at_call 22; refine (k2 _ (r1.below hb1)).mono ?_; rintro e w2 ⟨rfl, hb2⟩)
        | (go_at_call 8; refine (shown_any _ ).mono ?_; rintro e w1 ⟨rfl, hb1⟩))
      refine hQ.out _ _ ⟨by first | rfl | simp, ?_⟩
      exact (bthen0 (bthen0 (bthen0 (bthen0 (bthen0 (bthen0 hb1 hb2) hb3) hb4) hb5) hb6) hb7)
    · subst t2
      go_enter Tryd.func7, Tryd.ntmps7
      go_wp2_with (first
        | (have chk := hb6; clear chk; go_at_call 16; refine ((kb _) _ ((hr4a.below hb5).below hb6)).mono ?_; rintro e w7 ⟨rfl, hb7⟩)
        | (have chk := hb5; clear chk; go_at_call 19; refine ((kc _ _) _ (hr4a.below hb5) hr5a).mono ?_; rintro e w6 ⟨rfl, hb6⟩)
        | (have chk := hb4; clear chk; go_at_call 25; refine (ko _ ).mono ?_; rintro e w5 ⟨v5a, rfl, hr5a, hb5⟩)
        | (have chk := hb3; clear chk; go_at_call 23; refine (ks _ (((r1.below hb1).below hb2).below hb3)).mono ?_; rintro e w4 ⟨v4a, rfl, hr4a, hb4⟩)
        | (have chk := hb2; clear chk; go_at_call 24; refine (kt _ ((r1.below hb1).below hb2)).mono ?_; rintro e w3 ⟨rfl, hb3⟩)
        | (have chk := hb1; clear chk; go_at_call 22; refine (k2 _ (r1.below hb1)).mono ?_; rintro e w2 ⟨rfl, hb2⟩)
        | (go_at_call 8; refine (shown_any _ ).mono ?_; rintro e w1 ⟨rfl, hb1⟩))
      refine hQ.out _ _ ⟨by first | rfl | simp, ?_⟩
      exact (bthen0 (bthen0 (bthen0 (bthen0 (bthen0 (bthen0 hb1 hb2) hb3) hb4) hb5) hb6) hb7)
  · obtain ⟨j, rfl⟩ : ∃ j : Nat, k = j := ⟨k.toNat, by omega⟩
    by_cases hlong : 65536 < (j : Int)
    · have k2 := fun w h => natshl_long v1 l1 j hlong (by omega) w h
      have tf := top_facts (uval l1) 64 (by omega)
      have kt := fun w h => nattop_any v1 l1 a1 (by omega) 64 (by omega) (by omega) w h
      have ks := fun w h => natshr_any v1 l1 a1 (by omega) (blen (uval l1) - 64) (by omega) w h
      have hq : uval l1 / 2 ^ (blen (uval l1) - 64) < 18446744073709551616 := by
        have h1 : uval l1 < 2 ^ blen (uval l1) := blen_le.1 (Nat.le_refl _)
        have h2 : 2 ^ blen (uval l1) ≤ 2 ^ (blen (uval l1) - 64) * 18446744073709551616 := by
          rw [show (18446744073709551616 : Nat) = 2 ^ 64 by decide, ← Nat.pow_add]
          exact Nat.pow_le_pow_right (by decide) (by omega)
        exact Nat.div_lt_of_lt_mul (Nat.lt_of_lt_of_le h1 h2)
      have dq : dlen (uval l1 / 2 ^ (blen (uval l1) - 64)) ≤ 3145728 := Nat.le_trans (dlen_mono (Nat.div_le_self _ _)) d1
      generalize decide (uval l1 % 2 ^ (blen (uval l1) - 64) ≠ 0) = c at *
      generalize uval l1 / 2 ^ (blen (uval l1) - 64) = q at *
      generalize blen (uval l1) - 64 = n at *
      have ko := fun w => natof_any q hq w
      have bq : (lim q).length ≤ 3145728 := Nat.le_trans (lim_length q) dq
      have kc := fun va vb w h g => natcmp_any va vb (lim q) (lim q) (lim_mem q) (lim_mem q) (by omega) (by omega) w h g
      rw [cmpN_eq] at kc
      have kb := fun v w h => natbits_any v (lim q) (lim_mem q) (by omega) w h
      rw [uval_lim] at kb
      generalize blen q = B at *
      clear hq dq bq d1 a1 b1 wk
      rcases tf with ⟨t1, t2⟩ | ⟨t1, t2⟩
      · subst t1
        go_enter Tryd.func7, Tryd.ntmps7
        go_wp2_with (first
          | (have chk := hb6; clear chk; go_at_call 16; refine ((kb _) _ ((hr4a.below hb5).below hb6)).mono ?_; rintro e w7 ⟨rfl, hb7⟩)
          | (have chk := hb5; clear chk; go_at_call 19; refine ((kc _ _) _ (hr4a.below hb5) hr5a).mono ?_; rintro e w6 ⟨rfl, hb6⟩)
          | (have chk := hb4; clear chk; go_at_call 25; refine (ko _ ).mono ?_; rintro e w5 ⟨v5a, rfl, hr5a, hb5⟩)
          | (have chk := hb3; clear chk; go_at_call 23; refine (ks _ (((r1.below hb1).below hb2).below hb3)).mono ?_; rintro e w4 ⟨v4a, rfl, hr4a, hb4⟩)
          | (have chk := hb2; clear chk; go_at_call 24; refine (kt _ ((r1.below hb1).below hb2)).mono ?_; rintro e w3 ⟨rfl, hb3⟩)
          | (have chk := hb1; clear chk; go_at_call 22; refine (k2 _ (r1.below hb1)).mono ?_; rintro e w2 ⟨rfl, hb2⟩)
          | (go_at_call 8; refine (shown_any _ ).mono ?_; rintro e w1 ⟨rfl, hb1⟩))
        refine hQ.out _ _ ⟨by first | rfl | simp, ?_⟩
        exact (bthen0 (bthen0 (bthen0 (bthen0 (bthen0 (bthen0 hb1 hb2) hb3) hb4) hb5) hb6) hb7)
      · subst t2
        go_enter Tryd.func7, Tryd.ntmps7
        go_wp2_with (first
          | (have chk := hb6; clear chk; go_at_call 16; refine ((kb _) _ ((hr4a.below hb5).below hb6)).mono ?_; rintro e w7 ⟨rfl, hb7⟩)
          | (have chk := hb5; clear chk; go_at_call 19; refine ((kc _ _) _ (hr4a.below hb5) hr5a).mono ?_; rintro e w6 ⟨rfl, hb6⟩)
          | (have chk := hb4; clear chk; go_at_call 25; refine (ko _ ).mono ?_; rintro e w5 ⟨v5a, rfl, hr5a, hb5⟩)
          | (have chk := hb3; clear chk; go_at_call 23; refine (ks _ (((r1.below hb1).below hb2).below hb3)).mono ?_; rintro e w4 ⟨v4a, rfl, hr4a, hb4⟩)
          | (have chk := hb2; clear chk; go_at_call 24; refine (kt _ ((r1.below hb1).below hb2)).mono ?_; rintro e w3 ⟨rfl, hb3⟩)
          | (have chk := hb1; clear chk; go_at_call 22; refine (k2 _ (r1.below hb1)).mono ?_; rintro e w2 ⟨rfl, hb2⟩)
          | (go_at_call 8; refine (shown_any _ ).mono ?_; rintro e w1 ⟨rfl, hb1⟩))
        refine hQ.out _ _ ⟨by first | rfl | simp, ?_⟩
        exact (bthen0 (bthen0 (bthen0 (bthen0 (bthen0 (bthen0 hb1 hb2) hb3) hb4) hb5) hb6) hb7)
    · have k2 := fun w h => natshl_any v1 l1 a1 (by omega) j (by omega) w h
      have dz : dlen (uval l1 * 2 ^ j) ≤ 3211264 := Nat.le_trans (dlen_pow' _ _) (by omega)
      have bz : (lim (uval l1 * 2 ^ j)).length ≤ 3211264 := Nat.le_trans (lim_length _) dz
      have k3 := fun v w h => natshr_any v (lim (uval l1 * 2 ^ j)) (lim_mem _) (by omega) j (by omega) w h
      rw [uval_lim, Nat.mul_div_cancel _ (Nat.pow_pos (by decide)), Nat.mul_mod_left] at k3
      have bx : (lim (uval l1)).length ≤ 3145728 := Nat.le_trans (lim_length _) d1
      have k4 := fun va w h g => natcmp_any va v1 (lim (uval l1)) l1 (lim_mem _) a1 (by omega) (by omega) w h g
      rw [uval_lim, cmpN_eq] at k4
      clear dz bz bx
      by_cases hin : 1 ≤ j ∧ j ≤ 64
      · obtain ⟨i1, i2⟩ := hin
        have tf := top_facts (uval l1) j (by omega)
        have kt := fun w h => nattop_any v1 l1 a1 (by omega) j (by omega) (by omega) w h
        have ks := fun w h => natshr_any v1 l1 a1 (by omega) (blen (uval l1) - j) (by omega) w h
        have hq : uval l1 / 2 ^ (blen (uval l1) - j) < 18446744073709551616 := by
          have h1 : uval l1 < 2 ^ blen (uval l1) := blen_le.1 (Nat.le_refl _)
          have h2 : 2 ^ blen (uval l1) ≤ 2 ^ (blen (uval l1) - j) * 18446744073709551616 := by
            rw [show (18446744073709551616 : Nat) = 2 ^ 64 by decide, ← Nat.pow_add]
            exact Nat.pow_le_pow_right (by decide) (by omega)
          exact Nat.div_lt_of_lt_mul (Nat.lt_of_lt_of_le h1 h2)
        have dq : dlen (uval l1 / 2 ^ (blen (uval l1) - j)) ≤ 3145728 := Nat.le_trans (dlen_mono (Nat.div_le_self _ _)) d1
        generalize decide (uval l1 % 2 ^ (blen (uval l1) - j) ≠ 0) = c at *
        generalize uval l1 / 2 ^ (blen (uval l1) - j) = q at *
        generalize blen (uval l1) - j = n at *
        have ko := fun w => natof_any q hq w
        have bq : (lim q).length ≤ 3145728 := Nat.le_trans (lim_length q) dq
        have kc := fun va vb w h g => natcmp_any va vb (lim q) (lim q) (lim_mem q) (lim_mem q) (by omega) (by omega) w h g
        rw [cmpN_eq] at kc
        have kb := fun v w h => natbits_any v (lim q) (lim_mem q) (by omega) w h
        rw [uval_lim] at kb
        generalize blen q = B at *
        clear hq dq bq d1 a1 b1 wk
        rcases tf with ⟨t1, t2⟩ | ⟨t1, t2⟩
        · subst t1
          go_enter Tryd.func7, Tryd.ntmps7
          go_wp2_with (first
            | (have chk := hb8; clear chk; go_at_call 16; refine ((kb _) _ ((hr6a.below hb7).below hb8)).mono ?_; rintro e w9 ⟨rfl, hb9⟩)
            | (have chk := hb7; clear chk; go_at_call 19; refine ((kc _ _) _ (hr6a.below hb7) hr7a).mono ?_; rintro e w8 ⟨rfl, hb8⟩)
            | (have chk := hb6; clear chk; go_at_call 25; refine (ko _ ).mono ?_; rintro e w7 ⟨v7a, rfl, hr7a, hb7⟩)
            | (have chk := hb5; clear chk; go_at_call 23; refine (ks _ (((((r1.below hb1).below hb2).below hb3).below hb4).below hb5)).mono ?_; rintro e w6 ⟨v6a, rfl, hr6a, hb6⟩)
            | (have chk := hb4; clear chk; go_at_call 24; refine (kt _ ((((r1.below hb1).below hb2).below hb3).below hb4)).mono ?_; rintro e w5 ⟨rfl, hb5⟩)
            | (have chk := hb3; clear chk; go_at_call 19; refine ((k4 _) _ hr3a (((r1.below hb1).below hb2).below hb3)).mono ?_; rintro e w4 ⟨rfl, hb4⟩)
            | (have chk := hb2; clear chk; go_at_call 23; refine ((k3 _) _ hr2a).mono ?_; rintro e w3 ⟨v3a, rfl, hr3a, hb3⟩)
            | (have chk := hb1; clear chk; go_at_call 22; refine (k2 _ (r1.below hb1)).mono ?_; rintro e w2 ⟨v2a, rfl, hr2a, hb2⟩)
            | (go_at_call 8; refine (shown_any _ ).mono ?_; rintro e w1 ⟨rfl, hb1⟩))
          refine hQ.out _ _ ⟨by first | rfl | simp, ?_⟩
          exact (bthen0 (bthen0 (bthen0 (bthen0 (bthen0 (bthen0 (bthen0 (bthen0 hb1 hb2) hb3) hb4) hb5) hb6) hb7) hb8) hb9)
        · subst t2
          go_enter Tryd.func7, Tryd.ntmps7
          go_wp2_with (first
            | (have chk := hb8; clear chk; go_at_call 16; refine ((kb _) _ ((hr6a.below hb7).below hb8)).mono ?_; rintro e w9 ⟨rfl, hb9⟩)
            | (have chk := hb7; clear chk; go_at_call 19; refine ((kc _ _) _ (hr6a.below hb7) hr7a).mono ?_; rintro e w8 ⟨rfl, hb8⟩)
            | (have chk := hb6; clear chk; go_at_call 25; refine (ko _ ).mono ?_; rintro e w7 ⟨v7a, rfl, hr7a, hb7⟩)
            | (have chk := hb5; clear chk; go_at_call 23; refine (ks _ (((((r1.below hb1).below hb2).below hb3).below hb4).below hb5)).mono ?_; rintro e w6 ⟨v6a, rfl, hr6a, hb6⟩)
            | (have chk := hb4; clear chk; go_at_call 24; refine (kt _ ((((r1.below hb1).below hb2).below hb3).below hb4)).mono ?_; rintro e w5 ⟨rfl, hb5⟩)
            | (have chk := hb3; clear chk; go_at_call 19; refine ((k4 _) _ hr3a (((r1.below hb1).below hb2).below hb3)).mono ?_; rintro e w4 ⟨rfl, hb4⟩)
            | (have chk := hb2; clear chk; go_at_call 23; refine ((k3 _) _ hr2a).mono ?_; rintro e w3 ⟨v3a, rfl, hr3a, hb3⟩)
            | (have chk := hb1; clear chk; go_at_call 22; refine (k2 _ (r1.below hb1)).mono ?_; rintro e w2 ⟨v2a, rfl, hr2a, hb2⟩)
            | (go_at_call 8; refine (shown_any _ ).mono ?_; rintro e w1 ⟨rfl, hb1⟩))
          refine hQ.out _ _ ⟨by first | rfl | simp, ?_⟩
          exact (bthen0 (bthen0 (bthen0 (bthen0 (bthen0 (bthen0 (bthen0 (bthen0 hb1 hb2) hb3) hb4) hb5) hb6) hb7) hb8) hb9)
      · have hout : (j : Int) < 1 ∨ 64 < (j : Int) := by omega
        clear hin
        rcases hout with hout | hout
        · have j0 : j = 0 := by omega
          subst j0
          have tf := top_facts (uval l1) 64 (by omega)
          have kt := fun w h => nattop_any v1 l1 a1 (by omega) 64 (by omega) (by omega) w h
          have ks := fun w h => natshr_any v1 l1 a1 (by omega) (blen (uval l1) - 64) (by omega) w h
          have hq : uval l1 / 2 ^ (blen (uval l1) - 64) < 18446744073709551616 := by
            have h1 : uval l1 < 2 ^ blen (uval l1) := blen_le.1 (Nat.le_refl _)
            have h2 : 2 ^ blen (uval l1) ≤ 2 ^ (blen (uval l1) - 64) * 18446744073709551616 := by
              rw [show (18446744073709551616 : Nat) = 2 ^ 64 by decide, ← Nat.pow_add]
              exact Nat.pow_le_pow_right (by decide) (by omega)
            exact Nat.div_lt_of_lt_mul (Nat.lt_of_lt_of_le h1 h2)
          have dq : dlen (uval l1 / 2 ^ (blen (uval l1) - 64)) ≤ 3145728 := Nat.le_trans (dlen_mono (Nat.div_le_self _ _)) d1
          generalize decide (uval l1 % 2 ^ (blen (uval l1) - 64) ≠ 0) = c at *
          generalize uval l1 / 2 ^ (blen (uval l1) - 64) = q at *
          generalize blen (uval l1) - 64 = n at *
          have ko := fun w => natof_any q hq w
          have bq : (lim q).length ≤ 3145728 := Nat.le_trans (lim_length q) dq
          have kc := fun va vb w h g => natcmp_any va vb (lim q) (lim q) (lim_mem q) (lim_mem q) (by omega) (by omega) w h g
          rw [cmpN_eq] at kc
          have kb := fun v w h => natbits_any v (lim q) (lim_mem q) (by omega) w h
          rw [uval_lim] at kb
          generalize blen q = B at *
          clear hq dq bq d1 a1 b1 wk
          rcases tf with ⟨t1, t2⟩ | ⟨t1, t2⟩
          · subst t1
            go_enter Tryd.func7, Tryd.ntmps7
            go_wp2_with (first
              | (have chk := hb8; clear chk; go_at_call 16; refine ((kb _) _ ((hr6a.below hb7).below hb8)).mono ?_; rintro e w9 ⟨rfl, hb9⟩)
              | (have chk := hb7; clear chk; go_at_call 19; refine ((kc _ _) _ (hr6a.below hb7) hr7a).mono ?_; rintro e w8 ⟨rfl, hb8⟩)
              | (have chk := hb6; clear chk; go_at_call 25; refine (ko _ ).mono ?_; rintro e w7 ⟨v7a, rfl, hr7a, hb7⟩)
              | (have chk := hb5; clear chk; go_at_call 23; refine (ks _ (((((r1.below hb1).below hb2).below hb3).below hb4).below hb5)).mono ?_; rintro e w6 ⟨v6a, rfl, hr6a, hb6⟩)
              | (have chk := hb4; clear chk; go_at_call 24; refine (kt _ ((((r1.below hb1).below hb2).below hb3).below hb4)).mono ?_; rintro e w5 ⟨rfl, hb5⟩)
              | (have chk := hb3; clear chk; go_at_call 19; refine ((k4 _) _ hr3a (((r1.below hb1).below hb2).below hb3)).mono ?_; rintro e w4 ⟨rfl, hb4⟩)
              | (have chk := hb2; clear chk; go_at_call 23; refine ((k3 _) _ hr2a).mono ?_; rintro e w3 ⟨v3a, rfl, hr3a, hb3⟩)
              | (have chk := hb1; clear chk; go_at_call 22; refine (k2 _ (r1.below hb1)).mono ?_; rintro e w2 ⟨v2a, rfl, hr2a, hb2⟩)
              | (go_at_call 8; refine (shown_any _ ).mono ?_; rintro e w1 ⟨rfl, hb1⟩))
            refine hQ.out _ _ ⟨by first | rfl | simp, ?_⟩
            exact (bthen0 (bthen0 (bthen0 (bthen0 (bthen0 (bthen0 (bthen0 (bthen0 hb1 hb2) hb3) hb4) hb5) hb6) hb7) hb8) hb9)
          · subst t2
            go_enter Tryd.func7, Tryd.ntmps7
            go_wp2_with (first
              | (have chk := hb8; clear chk; go_at_call 16; refine ((kb _) _ ((hr6a.below hb7).below hb8)).mono ?_; rintro e w9 ⟨rfl, hb9⟩)
              | (have chk := hb7; clear chk; go_at_call 19; refine ((kc _ _) _ (hr6a.below hb7) hr7a).mono ?_; rintro e w8 ⟨rfl, hb8⟩)
              | (have chk := hb6; clear chk; go_at_call 25; refine (ko _ ).mono ?_; rintro e w7 ⟨v7a, rfl, hr7a, hb7⟩)
              | (have chk := hb5; clear chk; go_at_call 23; refine (ks _ (((((r1.below hb1).below hb2).below hb3).below hb4).below hb5)).mono ?_; rintro e w6 ⟨v6a, rfl, hr6a, hb6⟩)
              | (have chk := hb4; clear chk; go_at_call 24; refine (kt _ ((((r1.below hb1).below hb2).below hb3).below hb4)).mono ?_; rintro e w5 ⟨rfl, hb5⟩)
              | (have chk := hb3; clear chk; go_at_call 19; refine ((k4 _) _ hr3a (((r1.below hb1).below hb2).below hb3)).mono ?_; rintro e w4 ⟨rfl, hb4⟩)
              | (have chk := hb2; clear chk; go_at_call 23; refine ((k3 _) _ hr2a).mono ?_; rintro e w3 ⟨v3a, rfl, hr3a, hb3⟩)
              | (have chk := hb1; clear chk; go_at_call 22; refine (k2 _ (r1.below hb1)).mono ?_; rintro e w2 ⟨v2a, rfl, hr2a, hb2⟩)
              | (go_at_call 8; refine (shown_any _ ).mono ?_; rintro e w1 ⟨rfl, hb1⟩))
            refine hQ.out _ _ ⟨by first | rfl | simp, ?_⟩
            exact (bthen0 (bthen0 (bthen0 (bthen0 (bthen0 (bthen0 (bthen0 (bthen0 hb1 hb2) hb3) hb4) hb5) hb6) hb7) hb8) hb9)
        · skip
          have tf := top_facts (uval l1) 64 (by omega)
          have kt := fun w h => nattop_any v1 l1 a1 (by omega) 64 (by omega) (by omega) w h
          have ks := fun w h => natshr_any v1 l1 a1 (by omega) (blen (uval l1) - 64) (by omega) w h
          have hq : uval l1 / 2 ^ (blen (uval l1) - 64) < 18446744073709551616 := by
            have h1 : uval l1 < 2 ^ blen (uval l1) := blen_le.1 (Nat.le_refl _)
            have h2 : 2 ^ blen (uval l1) ≤ 2 ^ (blen (uval l1) - 64) * 18446744073709551616 := by
              rw [show (18446744073709551616 : Nat) = 2 ^ 64 by decide, ← Nat.pow_add]
              exact Nat.pow_le_pow_right (by decide) (by omega)
            exact Nat.div_lt_of_lt_mul (Nat.lt_of_lt_of_le h1 h2)
          have dq : dlen (uval l1 / 2 ^ (blen (uval l1) - 64)) ≤ 3145728 := Nat.le_trans (dlen_mono (Nat.div_le_self _ _)) d1
          generalize decide (uval l1 % 2 ^ (blen (uval l1) - 64) ≠ 0) = c at *
          generalize uval l1 / 2 ^ (blen (uval l1) - 64) = q at *
          generalize blen (uval l1) - 64 = n at *
          have ko := fun w => natof_any q hq w
          have bq : (lim q).length ≤ 3145728 := Nat.le_trans (lim_length q) dq
          have kc := fun va vb w h g => natcmp_any va vb (lim q) (lim q) (lim_mem q) (lim_mem q) (by omega) (by omega) w h g
          rw [cmpN_eq] at kc
          have kb := fun v w h => natbits_any v (lim q) (lim_mem q) (by omega) w h
          rw [uval_lim] at kb
          generalize blen q = B at *
          clear hq dq bq d1 a1 b1 wk
          rcases tf with ⟨t1, t2⟩ | ⟨t1, t2⟩
          · subst t1
            go_enter Tryd.func7, Tryd.ntmps7
            go_wp2_with (first
              | (have chk := hb8; clear chk; go_at_call 16; refine ((kb _) _ ((hr6a.below hb7).below hb8)).mono ?_; rintro e w9 ⟨rfl, hb9⟩)
              | (have chk := hb7; clear chk; go_at_call 19; refine ((kc _ _) _ (hr6a.below hb7) hr7a).mono ?_; rintro e w8 ⟨rfl, hb8⟩)
              | (have chk := hb6; clear chk; go_at_call 25; refine (ko _ ).mono ?_; rintro e w7 ⟨v7a, rfl, hr7a, hb7⟩)
              | (have chk := hb5; clear chk; go_at_call 23; refine (ks _ (((((r1.below hb1).below hb2).below hb3).below hb4).below hb5)).mono ?_; rintro e w6 ⟨v6a, rfl, hr6a, hb6⟩)
              | (have chk := hb4; clear chk; go_at_call 24; refine (kt _ ((((r1.below hb1).below hb2).below hb3).below hb4)).mono ?_; rintro e w5 ⟨rfl, hb5⟩)
              | (have chk := hb3; clear chk; go_at_call 19; refine ((k4 _) _ hr3a (((r1.below hb1).below hb2).below hb3)).mono ?_; rintro e w4 ⟨rfl, hb4⟩)
              | (have chk := hb2; clear chk; go_at_call 23; refine ((k3 _) _ hr2a).mono ?_; rintro e w3 ⟨v3a, rfl, hr3a, hb3⟩)
              | (have chk := hb1; clear chk; go_at_call 22; refine (k2 _ (r1.below hb1)).mono ?_; rintro e w2 ⟨v2a, rfl, hr2a, hb2⟩)
              | (go_at_call 8; refine (shown_any _ ).mono ?_; rintro e w1 ⟨rfl, hb1⟩))
            refine hQ.out _ _ ⟨by first | rfl | simp, ?_⟩
            exact (bthen0 (bthen0 (bthen0 (bthen0 (bthen0 (bthen0 (bthen0 (bthen0 hb1 hb2) hb3) hb4) hb5) hb6) hb7) hb8) hb9)
          · subst t2
            go_enter Tryd.func7, Tryd.ntmps7
            go_wp2_with (first
              | (have chk := hb8; clear chk; go_at_call 16; refine ((kb _) _ ((hr6a.below hb7).below hb8)).mono ?_; rintro e w9 ⟨rfl, hb9⟩)
              | (have chk := hb7; clear chk; go_at_call 19; refine ((kc _ _) _ (hr6a.below hb7) hr7a).mono ?_; rintro e w8 ⟨rfl, hb8⟩)
              | (have chk := hb6; clear chk; go_at_call 25; refine (ko _ ).mono ?_; rintro e w7 ⟨v7a, rfl, hr7a, hb7⟩)
              | (have chk := hb5; clear chk; go_at_call 23; refine (ks _ (((((r1.below hb1).below hb2).below hb3).below hb4).below hb5)).mono ?_; rintro e w6 ⟨v6a, rfl, hr6a, hb6⟩)
              | (have chk := hb4; clear chk; go_at_call 24; refine (kt _ ((((r1.below hb1).below hb2).below hb3).below hb4)).mono ?_; rintro e w5 ⟨rfl, hb5⟩)
              | (have chk := hb3; clear chk; go_at_call 19; refine ((k4 _) _ hr3a (((r1.below hb1).below hb2).below hb3)).mono ?_; rintro e w4 ⟨rfl, hb4⟩)
              | (have chk := hb2; clear chk; go_at_call 23; refine ((k3 _) _ hr2a).mono ?_; rintro e w3 ⟨v3a, rfl, hr3a, hb3⟩)
              | (have chk := hb1; clear chk; go_at_call 22; refine (k2 _ (r1.below hb1)).mono ?_; rintro e w2 ⟨v2a, rfl, hr2a, hb2⟩)
              | (go_at_call 8; refine (shown_any _ ).mono ?_; rintro e w1 ⟨rfl, hb1⟩))
            refine hQ.out _ _ ⟨by first | rfl | simp, ?_⟩
            exact (bthen0 (bthen0 (bthen0 (bthen0 (bthen0 (bthen0 (bthen0 (bthen0 hb1 hb2) hb3) hb4) hb5) hb6) hb7) hb8) hb9)
end Go.Proofs.YtcdmmblnfdenfabDoor
