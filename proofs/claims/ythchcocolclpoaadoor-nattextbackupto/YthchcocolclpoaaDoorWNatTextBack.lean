import Derived.Test.YthchcocolclpoaaDoorNatL
import Derived.Test.YthchcocolclpoaaDoorNatRd
import Derived.Test.YthchcocolclpoaaDoorNatIn
import Derived.Test.YthchcocolclpoaaDoorNatD
import Derived.Lib.IfaceNeq
namespace Go.Proofs.YthchcocolclpoaaDoor
open Go.ChangeShapes Go.WideShapes Go.ChangeAt Go.RowKit
set_option linter.unusedVariables false

theorem first_not (s : ByteArray) (h : 0 < s.size) : ∃ z, ∃ hz : z < s.size, (∀ j (hj : j < s.size), j < z → (s[j]'hj).toNat = 48) ∧ (z + 1 = s.size ∨ (s[z]'hz).toNat ≠ 48) := by
  have aux : ∀ k, k < s.size → (∀ j (hj : j < s.size), j < k → (s[j]'hj).toNat = 48) ∨ ∃ z, ∃ hz : z < s.size, (∀ j (hj : j < s.size), j < z → (s[j]'hj).toNat = 48) ∧ (z + 1 = s.size ∨ (s[z]'hz).toNat ≠ 48) := by
    intro k
    induction k with
    | zero => intro _; exact .inl fun j hj g => (by omega)
    | succ k ih =>
      intro hk
      rcases ih (by omega) with g | g
      · by_cases h48 : (s[k]'(by omega)).toNat = 48
        · refine .inl fun j hj g2 => ?_
          by_cases e : j = k
          · subst e; exact h48
          · exact g j hj (by omega)
        · exact .inr ⟨k, by omega, g, .inr h48⟩
      · exact .inr g
  rcases aux (s.size - 1) (by omega) with g | g
  · exact ⟨s.size - 1, by omega, g, .inl (by omega)⟩
  · exact g
theorem first_bad' (s : ByteArray) : (∀ j (hj : j < s.size), 48 ≤ (s[j]'hj).toNat ∧ (s[j]'hj).toNat ≤ 57) ∨
    ∃ f, ∃ g : f < s.size, (∀ j (hj : j < s.size), j < f → 48 ≤ (s[j]'hj).toNat ∧ (s[j]'hj).toNat ≤ 57) ∧ ¬ (48 ≤ (s[f]'g).toNat ∧ (s[f]'g).toNat ≤ 57) := by
  have h : ∀ k, k ≤ s.size → (∀ j (hj : j < s.size), j < k → 48 ≤ (s[j]'hj).toNat ∧ (s[j]'hj).toNat ≤ 57) ∨
      ∃ f, ∃ g : f < s.size, (∀ j (hj : j < s.size), j < f → 48 ≤ (s[j]'hj).toNat ∧ (s[j]'hj).toNat ≤ 57) ∧ ¬ (48 ≤ (s[f]'g).toNat ∧ (s[f]'g).toNat ≤ 57) := by
    intro k
    induction k with
    | zero => intro _; exact .inl fun j hj h => (by omega)
    | succ k ih =>
      intro hk
      rcases ih (by omega) with h | h
      · by_cases hd : 48 ≤ (s[k]'(by omega)).toNat ∧ (s[k]'(by omega)).toNat ≤ 57
        · refine .inl fun j hj h2 => ?_
          by_cases e : j = k
          · subst e; exact hd
          · exact h j hj (by omega)
        · exact .inr ⟨k, by omega, h, hd⟩
      · exact .inr h
  rcases h s.size (Nat.le_refl _) with g | g
  · exact .inl fun j hj => g j hj hj
  · exact .inr g
set_option maxHeartbeats 4000000 in
theorem natTextBack_walk (v1 : Value) (l1 : List Nat) (s : ByteArray) (w : World) (a1 : ∀ x ∈ l1, x < 18446744073709551616) (r1 : RowU w v1 l1) (b1 : l1.length ≤ 1048576) (hs : s.size ≤ maxLen) :
    Calls Tryd.prog 4 #[v1, .string s] w fun e w' => e = .returned (.bool true) ∧ Below w.heap.size w w' := by
  refine cps fun Q hQ => ?_
  have hn := fun w a b => Lib.run_neq_iface_int (P := Tryd.prog) w (t := 26) (tx := 29) (k := .i64) a b Tryd.underlying26 (by kernel_rfl) Tryd.underlying29
  have hm : s.size ≤ 9223372036854775807 := by unfold maxLen at hs; omega
  have d1 : dlen (uval l1) ≤ 3145728 := Nat.le_trans (dlen_uval l1 a1) (by omega)
  have hT : (decS (uval l1)).size ≤ 41943040 := by
    rw [decS_size]
    split
    · decide
    · have h1 : uval l1 < 10 ^ (10 * dlen (uval l1)) := by
        rw [Nat.pow_mul]
        exact Nat.lt_of_lt_of_le (lt_of_dlen_le (Nat.le_refl _)) (Nat.pow_le_pow_left (by decide) _)
      have := ds_length h1
      omega
  have k2 := fun w h => nattext_any v1 l1 a1 b1 w h
  by_cases ht4 : 4096 < (decS (uval l1)).size
  · have k3 := fun w => natread_long (decS (uval l1)) ht4 (by unfold maxLen; omega) w
    have k4 := fun w h g => natcmp_any v1 (.slice none 0 0) l1 [] a1 (fun x hx => by cases hx) (by omega) (by decide) w h g
    generalize cmpN (uval l1) (uval []) = cc at *
    generalize decS (uval l1) = TT at *
    clear a1 b1 d1
    by_cases hs4 : 4096 < s.size
    · have k5 := fun w => natread_long s hs4 hs w
      clear hs
      go_enter Tryd.func4, Tryd.ntmps4
      go_wp2_with (first
        | (have chk := hb4; clear chk; go_at_call 11; refine (k5 _ ).mono ?_; rintro e w5 ⟨rfl, hb5⟩)
        | (have chk := hb3; clear chk; go_at_call 12; refine (k4 _ (((r1.below hb1).below hb2).below hb3) (rowU_nil _)).mono ?_; rintro e w4 ⟨rfl, hb4⟩)
        | (have chk := hb2; clear chk; go_at_call 11; refine (k3 _ ).mono ?_; rintro e w3 ⟨rfl, hb3⟩)
        | (have chk := hb1; clear chk; go_at_call 10; refine (k2 _ (r1.below hb1)).mono ?_; rintro e w2 ⟨rfl, hb2⟩)
        | (go_at_call 6; refine (shown_any _ ).mono ?_; rintro e w1 ⟨rfl, hb1⟩))
      refine hQ.out _ _ ⟨by first | rfl | simp, ?_⟩
      exact (bthen0 (bthen0 (bthen0 (bthen0 hb1 hb2) hb3) hb4) hb5)
    · rcases first_bad' s with hall | hbad
      · by_cases h0 : s.size = 0
        · have k5 := fun w => natread_bad s (by omega) 0 (.inr ⟨rfl, h0⟩) w
          clear hs hall
          go_enter Tryd.func4, Tryd.ntmps4
          go_wp2_with (first
            | (have chk := hb4; clear chk; go_at_call 11; refine (k5 _).mono ?_; rintro e w5 ⟨bb, rfl, -, -, -, hb5⟩)
            | (have chk := hb3; clear chk; go_at_call 12; refine (k4 _ (((r1.below hb1).below hb2).below hb3) (rowU_nil _)).mono ?_; rintro e w4 ⟨rfl, hb4⟩)
            | (have chk := hb2; clear chk; go_at_call 11; refine (k3 _ ).mono ?_; rintro e w3 ⟨rfl, hb3⟩)
            | (have chk := hb1; clear chk; go_at_call 10; refine (k2 _ (r1.below hb1)).mono ?_; rintro e w2 ⟨rfl, hb2⟩)
            | (go_at_call 6; refine (shown_any _ ).mono ?_; rintro e w1 ⟨rfl, hb1⟩))
          refine hQ.out _ _ ⟨by first | rfl | simp, ?_⟩
          exact (bthen0 (bthen0 (bthen0 (bthen0 hb1 hb2) hb3) hb4) hb5)
        · have k5 := fun w => natread_any s (by omega) (by omega) hall w
          obtain ⟨z, hz, z1, z2⟩ := first_not s (by omega)
          have hU := decS_cut s hall z hz z1 z2
          have dD : dlen (dnum s s.size) ≤ 4097 := Nat.le_trans (dlen_mono (Nat.le_of_lt (dnum_lt s s.size hall (Nat.le_refl _)))) (Nat.le_trans (dlen_ten s.size) (by omega))
          have bD := Nat.le_trans (lim_length (dnum s s.size)) dD
          have k6 := fun v w h => nattext_any v (lim (dnum s s.size)) (lim_mem _) (by omega) w h
          rw [uval_lim, hU] at k6
          generalize dnum s s.size = D at *
          have Z1 : Hid (∀ j (hj : j < s.size), j < z → (s[j]'hj).toNat = 48) := z1
          have Z2 : Hid (z + 1 = s.size ∨ (s[z]'hz).toNat ≠ 48) := z2
          clear hs hall hU dD bD z1 z2
          go_enter Tryd.func4, Tryd.ntmps4
          go_wp2_with (first
            | (have chk := hb4; clear chk; go_at_call 11; refine (k5 _ ).mono ?_; rintro e w5 ⟨v5a, rfl, hr5a, hb5⟩)
            | (have chk := hb3; clear chk; go_at_call 12; refine (k4 _ (((r1.below hb1).below hb2).below hb3) (rowU_nil _)).mono ?_; rintro e w4 ⟨rfl, hb4⟩)
            | (have chk := hb2; clear chk; go_at_call 11; refine (k3 _ ).mono ?_; rintro e w3 ⟨rfl, hb3⟩)
            | (have chk := hb1; clear chk; go_at_call 10; refine (k2 _ (r1.below hb1)).mono ?_; rintro e w2 ⟨rfl, hb2⟩)
            | (go_at_call 6; refine (shown_any _ ).mono ?_; rintro e w1 ⟨rfl, hb1⟩))
          go_loopw [12] (fun iv wr => ∃ j : Nat, j ≤ z ∧ iv = .int .i64 j ∧ wr = w5) (fun iv _ => s.size - (intOf iv).toNat)
          case atStart => exact ⟨0, Nat.zero_le _, rfl, rfl⟩
          case round =>
            obtain ⟨j, hj, rfl, rfl⟩ := hrel
            have hjs : j < s.size := by omega
            by_cases hjz : j < z
            · have e1 := Z1.out j hjs hjz
              have o1 : ((s[j]'hjs).toNat : Int) = 48 := by omega
              have o2 : (((s[j]'hjs).toNat : Int) == 48) = true := by rw [o1]; rfl
              clear e1
              go_wp2
              go_roundw
              case measure => simp [intOf]; omega
              case rel => exact ⟨j + 1, hjz, by go_num, by first | rfl | trivial⟩
            · have e : j = z := by omega
              subst e
              rcases Z2.out with hl | hne
              · skip
                go_wp2_with (go_at_call 10; refine (k6 _ _ hr5a).mono ?_; rintro e w6 ⟨rfl, hb6⟩)
                all_goals
                  refine hQ.out _ _ ⟨by first | rfl | simp, ?_⟩
                  exact (bthen0 (bthen0 (bthen0 (bthen0 (bthen0 hb1 hb2) hb3) hb4) hb5) hb6)
              · have o1 : ¬ ((s[j]'hjs).toNat : Int) = 48 := by omega
                have o2 : (((s[j]'hjs).toNat : Int) == 48) = false := by simp; omega
                clear hne
                go_wp2_with (go_at_call 10; refine (k6 _ _ hr5a).mono ?_; rintro e w6 ⟨rfl, hb6⟩)
                all_goals
                  refine hQ.out _ _ ⟨by first | rfl | simp, ?_⟩
                  exact (bthen0 (bthen0 (bthen0 (bthen0 (bthen0 hb1 hb2) hb3) hb4) hb5) hb6)
      · obtain ⟨f, hf, h1, h2⟩ := hbad
        have k5 := fun w => natread_bad s (by omega) f (.inl ⟨hf, h1, h2⟩) w
        clear hs h1 h2
        go_enter Tryd.func4, Tryd.ntmps4
        go_wp2_with (first
          | (have chk := hb4; clear chk; go_at_call 11; refine (k5 _).mono ?_; rintro e w5 ⟨bb, rfl, -, -, -, hb5⟩)
          | (have chk := hb3; clear chk; go_at_call 12; refine (k4 _ (((r1.below hb1).below hb2).below hb3) (rowU_nil _)).mono ?_; rintro e w4 ⟨rfl, hb4⟩)
          | (have chk := hb2; clear chk; go_at_call 11; refine (k3 _ ).mono ?_; rintro e w3 ⟨rfl, hb3⟩)
          | (have chk := hb1; clear chk; go_at_call 10; refine (k2 _ (r1.below hb1)).mono ?_; rintro e w2 ⟨rfl, hb2⟩)
          | (go_at_call 6; refine (shown_any _ ).mono ?_; rintro e w1 ⟨rfl, hb1⟩))
        refine hQ.out _ _ ⟨by first | rfl | simp, ?_⟩
        exact (bthen0 (bthen0 (bthen0 (bthen0 hb1 hb2) hb3) hb4) hb5)
  · have k3 := fun w => natread_any (decS (uval l1)) (by omega) (decS_pos _) (fun j hj => decS_digits _ j hj) w
    rw [decS_dnum] at k3
    have bx : (lim (uval l1)).length ≤ 3145728 := Nat.le_trans (lim_length _) d1
    have k4 := fun vb w h g => natcmp_any v1 vb l1 (lim (uval l1)) a1 (lim_mem _) (by omega) (by omega) w h g
    rw [uval_lim, cmpN_eq] at k4
    generalize decS (uval l1) = TT at *
    clear a1 b1 d1 bx
    by_cases hs4 : 4096 < s.size
    · have k5 := fun w => natread_long s hs4 hs w
      clear hs
      go_enter Tryd.func4, Tryd.ntmps4
      go_wp2_with (first
        | (have chk := hb4; clear chk; go_at_call 11; refine (k5 _ ).mono ?_; rintro e w5 ⟨rfl, hb5⟩)
        | (have chk := hb3; clear chk; go_at_call 12; refine ((k4 _) _ (((r1.below hb1).below hb2).below hb3) hr3a).mono ?_; rintro e w4 ⟨rfl, hb4⟩)
        | (have chk := hb2; clear chk; go_at_call 11; refine (k3 _ ).mono ?_; rintro e w3 ⟨v3a, rfl, hr3a, hb3⟩)
        | (have chk := hb1; clear chk; go_at_call 10; refine (k2 _ (r1.below hb1)).mono ?_; rintro e w2 ⟨rfl, hb2⟩)
        | (go_at_call 6; refine (shown_any _ ).mono ?_; rintro e w1 ⟨rfl, hb1⟩))
      refine hQ.out _ _ ⟨by first | rfl | simp, ?_⟩
      exact (bthen0 (bthen0 (bthen0 (bthen0 hb1 hb2) hb3) hb4) hb5)
    · rcases first_bad' s with hall | hbad
      · by_cases h0 : s.size = 0
        · have k5 := fun w => natread_bad s (by omega) 0 (.inr ⟨rfl, h0⟩) w
          clear hs hall
          go_enter Tryd.func4, Tryd.ntmps4
          go_wp2_with (first
            | (have chk := hb4; clear chk; go_at_call 11; refine (k5 _).mono ?_; rintro e w5 ⟨bb, rfl, -, -, -, hb5⟩)
            | (have chk := hb3; clear chk; go_at_call 12; refine ((k4 _) _ (((r1.below hb1).below hb2).below hb3) hr3a).mono ?_; rintro e w4 ⟨rfl, hb4⟩)
            | (have chk := hb2; clear chk; go_at_call 11; refine (k3 _ ).mono ?_; rintro e w3 ⟨v3a, rfl, hr3a, hb3⟩)
            | (have chk := hb1; clear chk; go_at_call 10; refine (k2 _ (r1.below hb1)).mono ?_; rintro e w2 ⟨rfl, hb2⟩)
            | (go_at_call 6; refine (shown_any _ ).mono ?_; rintro e w1 ⟨rfl, hb1⟩))
          refine hQ.out _ _ ⟨by first | rfl | simp, ?_⟩
          exact (bthen0 (bthen0 (bthen0 (bthen0 hb1 hb2) hb3) hb4) hb5)
        · have k5 := fun w => natread_any s (by omega) (by omega) hall w
          obtain ⟨z, hz, z1, z2⟩ := first_not s (by omega)
          have hU := decS_cut s hall z hz z1 z2
          have dD : dlen (dnum s s.size) ≤ 4097 := Nat.le_trans (dlen_mono (Nat.le_of_lt (dnum_lt s s.size hall (Nat.le_refl _)))) (Nat.le_trans (dlen_ten s.size) (by omega))
          have bD := Nat.le_trans (lim_length (dnum s s.size)) dD
          have k6 := fun v w h => nattext_any v (lim (dnum s s.size)) (lim_mem _) (by omega) w h
          rw [uval_lim, hU] at k6
          generalize dnum s s.size = D at *
          have Z1 : Hid (∀ j (hj : j < s.size), j < z → (s[j]'hj).toNat = 48) := z1
          have Z2 : Hid (z + 1 = s.size ∨ (s[z]'hz).toNat ≠ 48) := z2
          clear hs hall hU dD bD z1 z2
          go_enter Tryd.func4, Tryd.ntmps4
          go_wp2_with (first
            | (have chk := hb4; clear chk; go_at_call 11; refine (k5 _ ).mono ?_; rintro e w5 ⟨v5a, rfl, hr5a, hb5⟩)
            | (have chk := hb3; clear chk; go_at_call 12; refine ((k4 _) _ (((r1.below hb1).below hb2).below hb3) hr3a).mono ?_; rintro e w4 ⟨rfl, hb4⟩)
            | (have chk := hb2; clear chk; go_at_call 11; refine (k3 _ ).mono ?_; rintro e w3 ⟨v3a, rfl, hr3a, hb3⟩)
            | (have chk := hb1; clear chk; go_at_call 10; refine (k2 _ (r1.below hb1)).mono ?_; rintro e w2 ⟨rfl, hb2⟩)
            | (go_at_call 6; refine (shown_any _ ).mono ?_; rintro e w1 ⟨rfl, hb1⟩))
          go_loopw [12] (fun iv wr => ∃ j : Nat, j ≤ z ∧ iv = .int .i64 j ∧ wr = w5) (fun iv _ => s.size - (intOf iv).toNat)
          case atStart => exact ⟨0, Nat.zero_le _, rfl, rfl⟩
          case round =>
            obtain ⟨j, hj, rfl, rfl⟩ := hrel
            have hjs : j < s.size := by omega
            by_cases hjz : j < z
            · have e1 := Z1.out j hjs hjz
              have o1 : ((s[j]'hjs).toNat : Int) = 48 := by omega
              have o2 : (((s[j]'hjs).toNat : Int) == 48) = true := by rw [o1]; rfl
              clear e1
              go_wp2
              go_roundw
              case measure => simp [intOf]; omega
              case rel => exact ⟨j + 1, hjz, by go_num, by first | rfl | trivial⟩
            · have e : j = z := by omega
              subst e
              rcases Z2.out with hl | hne
              · skip
                go_wp2_with (go_at_call 10; refine (k6 _ _ hr5a).mono ?_; rintro e w6 ⟨rfl, hb6⟩)
                all_goals
                  refine hQ.out _ _ ⟨by first | rfl | simp, ?_⟩
                  exact (bthen0 (bthen0 (bthen0 (bthen0 (bthen0 hb1 hb2) hb3) hb4) hb5) hb6)
              · have o1 : ¬ ((s[j]'hjs).toNat : Int) = 48 := by omega
                have o2 : (((s[j]'hjs).toNat : Int) == 48) = false := by simp; omega
                clear hne
                go_wp2_with (go_at_call 10; refine (k6 _ _ hr5a).mono ?_; rintro e w6 ⟨rfl, hb6⟩)
                all_goals
                  refine hQ.out _ _ ⟨by first | rfl | simp, ?_⟩
                  exact (bthen0 (bthen0 (bthen0 (bthen0 (bthen0 hb1 hb2) hb3) hb4) hb5) hb6)
      · obtain ⟨f, hf, h1, h2⟩ := hbad
        have k5 := fun w => natread_bad s (by omega) f (.inl ⟨hf, h1, h2⟩) w
        clear hs h1 h2
        go_enter Tryd.func4, Tryd.ntmps4
        go_wp2_with (first
          | (have chk := hb4; clear chk; go_at_call 11; refine (k5 _).mono ?_; rintro e w5 ⟨bb, rfl, -, -, -, hb5⟩)
          | (have chk := hb3; clear chk; go_at_call 12; refine ((k4 _) _ (((r1.below hb1).below hb2).below hb3) hr3a).mono ?_; rintro e w4 ⟨rfl, hb4⟩)
          | (have chk := hb2; clear chk; go_at_call 11; refine (k3 _ ).mono ?_; rintro e w3 ⟨v3a, rfl, hr3a, hb3⟩)
          | (have chk := hb1; clear chk; go_at_call 10; refine (k2 _ (r1.below hb1)).mono ?_; rintro e w2 ⟨rfl, hb2⟩)
          | (go_at_call 6; refine (shown_any _ ).mono ?_; rintro e w1 ⟨rfl, hb1⟩))
        refine hQ.out _ _ ⟨by first | rfl | simp, ?_⟩
        exact (bthen0 (bthen0 (bthen0 (bthen0 hb1 hb2) hb3) hb4) hb5)
end Go.Proofs.YthchcocolclpoaaDoor
