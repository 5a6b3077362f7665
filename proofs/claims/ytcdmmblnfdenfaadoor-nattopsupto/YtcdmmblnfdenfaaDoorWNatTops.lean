import Derived.Test.YtcdmmblnfdenfaaDoorNatL
import Derived.Test.YtcdmmblnfdenfaaDoorNatIn
namespace Go.Proofs.YtcdmmblnfdenfaaDoor
open Go.ChangeShapes Go.WideShapes Go.ChangeAt Go.RowKit
set_option linter.unusedVariables false

set_option maxHeartbeats 4000000 in
theorem natTops_walk (v1 : Value) (l1 : List Nat) (k : Int) (w : World) (a1 : ∀ x ∈ l1, x < 18446744073709551616) (r1 : RowU w v1 l1) (b1 : l1.length ≤ 1048576) (wk : (Lit.int .i64 k).wf = true) :
    Calls Tryd.prog 8 #[v1, .int .i64 k] w fun e w' => e = .returned (.bool true) ∧ Below w.heap.size w w' := by
  refine cps fun Q hQ => ?_
  have m1 := fun w h => meant_any v1 l1 a1 (by omega) w h
  have d1 : dlen (uval l1) ≤ 3145728 := Nat.le_trans (dlen_uval l1 a1) (by omega)
  have he := fun w a b => Lib.run_eql_iface_int (P := Tryd.prog) w (t := 41) (tx := 44) (k := .i64) a b Tryd.underlying41 (by kernel_rfl) Tryd.underlying44
  have bk := bounds_i64 wk
  by_cases hbad : k < 1 ∨ 64 < k
  · have k2 := fun w h => nattop_bad v1 l1 k hbad w h
    clear d1 a1 b1 wk
    rcases hbad with hbad | hbad
    all_goals
      go_enter Tryd.func8, Tryd.ntmps8
      go_wp2_with (first
        | (have chk := hb1; clear chk; go_at_call 31; refine (k2 _ (r1.below hb1)).mono ?_; rintro e w2 ⟨rfl, hb2⟩)
        | (go_at_call 9; refine (shown_any _ ).mono ?_; rintro e w1 ⟨rfl, hb1⟩))
      refine hQ.out _ _ ⟨by first | rfl | simp, ?_⟩
      exact (bthen0 hb1 hb2)
  · obtain ⟨j, rfl⟩ : ∃ j : Nat, k = j := ⟨k.toNat, by omega⟩
    have k2 := fun w h => nattop_any v1 l1 a1 (by omega) j (by omega) (by omega) w h
    have k4 := fun v w h => nbits_b v (uval l1) (by omega) w h
    have hL : blen (uval l1) ≤ 67108864 := by
      have := blen_le.2 (uval_lt l1 a1)
      omega
    obtain ⟨n, hn⟩ : ∃ n, n = blen (uval l1) - j := ⟨_, rfl⟩
    have k5 := fun v w h => nshr_any v (uval l1) n (by omega) (by omega) w h
    have k6 := fun v w h => nword_b v (uval l1 / 2 ^ n) w h
    have hw : uval l1 / 2 ^ n < 2 ^ 64 := by
      have h1 : uval l1 < 2 ^ blen (uval l1) := blen_le.1 (Nat.le_refl _)
      refine Nat.div_lt_of_lt_mul (Nat.lt_of_lt_of_le h1 ?_)
      rw [← Nat.pow_add]
      exact Nat.pow_le_pow_right (by decide) (by omega)
    rw [Nat.mod_eq_of_lt hw] at k6
    have k7 := fun v w h => nlow_b v (uval l1) n (by omega) (by omega) w h
    rw [← hn] at k2
    have h1 : 1 ≤ (j : Int) := by omega
    have h64 : (j : Int) ≤ 64 := by omega
    generalize decide (uval l1 % 2 ^ n ≠ 0) = c at *
    generalize uval l1 / 2 ^ n = t at *
    generalize blen (uval l1) = L at *
    by_cases hlt : L < j
    · have hn0 : n = 0 := by omega
      subst hn0
      have hneg : ((L : Int) - j < 0) = True := by simp; omega
      clear d1 a1 b1 wk bk hbad hn hw
      go_enter Tryd.func8, Tryd.ntmps8
      go_wp2_with (first
        | (have chk := hb6; clear chk; go_at_call 28; refine ((k7 _) _ (((hr3a.below hb4).below hb5).below hb6)).mono ?_; rintro e w7 ⟨rfl, hb7⟩)
        | (have chk := hb5; clear chk; go_at_call 32; refine ((k6 _) _ hr5a).mono ?_; rintro e w6 ⟨rfl, hb6⟩)
        | (have chk := hb4; clear chk; go_at_call 29; refine ((k5 _) _ (hr3a.below hb4)).mono ?_; rintro e w5 ⟨v5a, rfl, hr5a, hb5⟩)
        | (have chk := hb3; clear chk; go_at_call 16; refine ((k4 _) _ hr3a).mono ?_; rintro e w4 ⟨rfl, hb4⟩)
        | (have chk := hb2; clear chk; go_at_call 11; refine (m1 _ ((r1.below hb1).below hb2)).mono ?_; rintro e w3 ⟨v3a, rfl, hr3a, hb3⟩)
        | (have chk := hb1; clear chk; go_at_call 31; refine (k2 _ (r1.below hb1)).mono ?_; rintro e w2 ⟨rfl, hb2⟩)
        | (go_at_call 9; refine (shown_any _ ).mono ?_; rintro e w1 ⟨rfl, hb1⟩))
      refine hQ.out _ _ ⟨by first | rfl | simp, ?_⟩
      exact (bthen0 (bthen0 (bthen0 (bthen0 (bthen0 (bthen0 hb1 hb2) hb3) hb4) hb5) hb6) hb7)
    · have e1 : (L : Int) - j = (n : Int) := by omega
      clear d1 a1 b1 wk bk hbad hn hw
      go_enter Tryd.func8, Tryd.ntmps8
      go_wp2_with (first
        | (have chk := hb6; clear chk; go_at_call 28; refine ((k7 _) _ (((hr3a.below hb4).below hb5).below hb6)).mono ?_; rintro e w7 ⟨rfl, hb7⟩)
        | (have chk := hb5; clear chk; go_at_call 32; refine ((k6 _) _ hr5a).mono ?_; rintro e w6 ⟨rfl, hb6⟩)
        | (have chk := hb4; clear chk; go_at_call 29; refine ((k5 _) _ (hr3a.below hb4)).mono ?_; rintro e w5 ⟨v5a, rfl, hr5a, hb5⟩)
        | (have chk := hb3; clear chk; go_at_call 16; refine ((k4 _) _ hr3a).mono ?_; rintro e w4 ⟨rfl, hb4⟩)
        | (have chk := hb2; clear chk; go_at_call 11; refine (m1 _ ((r1.below hb1).below hb2)).mono ?_; rintro e w3 ⟨v3a, rfl, hr3a, hb3⟩)
        | (have chk := hb1; clear chk; go_at_call 31; refine (k2 _ (r1.below hb1)).mono ?_; rintro e w2 ⟨rfl, hb2⟩)
        | (go_at_call 9; refine (shown_any _ ).mono ?_; rintro e w1 ⟨rfl, hb1⟩))
      refine hQ.out _ _ ⟨by first | rfl | simp, ?_⟩
      exact (bthen0 (bthen0 (bthen0 (bthen0 (bthen0 (bthen0 hb1 hb2) hb3) hb4) hb5) hb6) hb7)
end Go.Proofs.YtcdmmblnfdenfaaDoor
