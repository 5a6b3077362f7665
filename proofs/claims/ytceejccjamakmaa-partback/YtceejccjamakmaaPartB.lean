import Derived.Test.YtceejccjamakmaaPartA
import Derived.Test.YtceejccjamakmaaTwinG
namespace Go.Proofs.Ytceejccjamakmaa
open Go.ChangeShapes Go.WideShapes Go.ChangeAt Go.RowKit
set_option linter.unusedVariables false

theorem div64_q {a hi lo y q r : Nat} (ha : a = hi * 18446744073709551616 + lo) (hh : hi < y) (hl : lo ≤ 18446744073709551615) (hy : y ≤ 18446744073709551615) (hq : q = a / y) (hr : r = a % y) (w : World) :
    Calls Try.prog 23 #[.int .u64 hi, .int .u64 lo, .int .u64 y] w fun e w' => e = .returned (.tuple #[.int .u64 q, .int .u64 r]) ∧ ∃ n, w' = w.drewN n := by
  refine (div64_any hi lo y hh hl hy w).mono ?_
  rintro e w' ⟨⟨q', r', rfl, h1, h2⟩, hw⟩
  refine ⟨?_, hw⟩
  rw [h1, h2, hq, hr, ha]
theorem pdiv_zero (h1 l1 : Nat) (w : World) :
    Calls Try.prog 10 #[.agg #[.int .u64 h1, .int .u64 l1], .int .u64 0] w fun e w' => e = .returned (.tuple #[.int .u64 0, .int .u64 0, .iface 46 (.int .i64 4)]) ∧ Below w.heap.size w w' := by
  refine cps fun Q hQ => ?_
  go_enter Try.func10, Try.ntmps10
  go_wp2
  go_ret3
  exact hQ.out _ _ ⟨rfl, bmore (Below.refl _ _) _⟩
theorem pdiv_big (h1 l1 d : Nat) (hd : 0 < d) (hb : d ≤ h1) (w : World) :
    Calls Try.prog 10 #[.agg #[.int .u64 h1, .int .u64 l1], .int .u64 d] w fun e w' => e = .returned (.tuple #[.int .u64 0, .int .u64 0, .iface 46 (.int .i64 5)]) ∧ Below w.heap.size w w' := by
  refine cps fun Q hQ => ?_
  go_enter Try.func10, Try.ntmps10
  go_wp2
  go_ret3
  exact hQ.out _ _ ⟨rfl, bmore (Below.refl _ _) _⟩
theorem pdiv_any {a h1 l1 d q r : Nat} (ha : Tw a h1 l1) (hd : d ≤ 18446744073709551615) (hb : h1 < d) (hq : q = a / d) (hr : r = a % d) (w : World) :
    Calls Try.prog 10 #[.agg #[.int .u64 h1, .int .u64 l1], .int .u64 d] w fun e w' => e = .returned (.tuple #[.int .u64 q, .int .u64 r, .nilIface]) ∧ Below w.heap.size w w' := by
  refine cps fun Q hQ => ?_
  have k1 := fun w => div64_q ha.eq hb ha.lo hd hq hr w
  clear ha hq hr
  go_enter Try.func10, Try.ntmps10
  go_wp2_with (go_at_call 23; refine (k1 _).mono ?_; rintro e w' ⟨rfl, n, rfl⟩)
  go_ret3
  exact hQ.out _ _ ⟨rfl, bdrewN (bmore (Below.refl _ _) _) _⟩
theorem plong_zero (h1 l1 : Nat) (w : World) :
    Calls Try.prog 13 #[.agg #[.int .u64 h1, .int .u64 l1], .int .u64 0] w fun e w' => e = .returned (.tuple #[.agg #[.int .u64 0, .int .u64 0], .int .u64 0, .iface 46 (.int .i64 4)]) ∧ Below w.heap.size w w' := by
  refine cps fun Q hQ => ?_
  go_enter Try.func13, Try.ntmps13
  go_wp2
  refine bodyPost_ret (v := .tuple #[.agg #[.int .u64 0, .int .u64 0], .int .u64 0, .iface 46 (.int .i64 4)]) (by simp [results, Try.results13, go_sem]) rfl (hQ.out _ _ ⟨rfl, ?_⟩)
  exact bmore (bmore (Below.refl _ _) _) _
theorem plong_any {a h1 l1 d h l r : Nat} (ha : Tw a h1 l1) (hd : d ≤ 18446744073709551615) (h0 : 0 < d) (hq : Tw (a / d) h l) (hr : r = a % d) (w : World) :
    Calls Try.prog 13 #[.agg #[.int .u64 h1, .int .u64 l1], .int .u64 d] w fun e w' => e = .returned (.tuple #[.agg #[.int .u64 h, .int .u64 l], .int .u64 r, .nilIface]) ∧ Below w.heap.size w w' := by
  refine cps fun Q hQ => ?_
  obtain ⟨ea, hh, hl⟩ := ha
  obtain ⟨m, hm⟩ : ∃ m, m = h1 % d := ⟨_, rfl⟩
  obtain ⟨t, ht⟩ : ∃ t, t = h1 / d := ⟨_, rfl⟩
  have hmd : m < d := by rw [hm]; exact Nat.mod_lt _ h0
  have e1 : h1 = t * d + m := by rw [hm, ht]; exact (Nat.div_add_mod' h1 d).symm
  have e2 : a = (m * 18446744073709551616 + l1) + t * 18446744073709551616 * d := by
    rw [ea, e1, Nat.add_mul, Nat.mul_right_comm]
    omega
  have e3 : a / d = (m * 18446744073709551616 + l1) / d + t * 18446744073709551616 := by rw [e2, Nat.add_mul_div_right _ _ h0]
  have e4 : a % d = (m * 18446744073709551616 + l1) % d := by rw [e2, Nat.add_mul_mod_self_right]
  have e5 : (m * 18446744073709551616 + l1) / d < 18446744073709551616 := by
    refine Nat.div_lt_of_lt_mul ?_
    have := Nat.mul_le_mul (show m + 1 ≤ d by omega) (Nat.le_refl 18446744073709551616)
    omega
  have et : t ≤ h1 := by rw [ht]; exact Nat.div_le_self _ _
  have hq' : h = t ∧ l = (m * 18446744073709551616 + l1) / d := by
    rw [e3] at hq
    obtain ⟨q1, q2, q3⟩ := hq
    generalize (m * 18446744073709551616 + l1) / d = X at *
    omega
  have k1 := fun w => div64_q (a := m * 18446744073709551616 + l1) rfl hmd hl hd hq'.2 (hr.trans e4) w
  have v1 : (h1 : Int) % d = m := by rw [hm]; exact (Int.natCast_emod h1 d).symm
  have v2 : (h1 : Int) / d = h := by rw [hq'.1, ht]; exact (Int.natCast_ediv h1 d).symm
  have v3 : IntKind.u64.wrap (h : Int) = h := wrapU h (by omega)
  have h3 : ¬ ((d : Int) = 0) := by omega
  clear e1 e2 e3 e4 e5 hq hr hq' et ht hm ea
  go_enter Try.func13, Try.ntmps13
  go_wp2
  go_quiet ((go_at_call 23; exact Calls.quiet_of (k1 _)))
  go_wp2
  refine bodyPost_ret (v := .tuple #[.agg #[.int .u64 h, .int .u64 l], .int .u64 r, .nilIface]) (by simp [results, Try.results13, go_sem]) rfl (hQ.out _ _ ⟨rfl, ?_⟩)
  exact bset (bset (bdrewN (bmore (bmore (Below.refl _ _) _) _) _) (by omega) _ _) (by omega) _ _
theorem ptimes_any {d h2 l2 q h l : Nat} (hd : Tw d h2 l2) (hq : q ≤ 18446744073709551615) (hs : Tw (d * q) h l) (w : World) :
    Calls Try.prog 27 #[.agg #[.int .u64 h2, .int .u64 l2], .int .u64 q] w fun e w' => e = .returned (.agg #[.int .u64 h, .int .u64 l]) ∧ Below w.heap.size w w' := by
  refine cps fun Q hQ => ?_
  obtain ⟨ed, e1, e2⟩ := hd
  have lp := Nat.mul_le_mul e2 hq
  obtain ⟨hm, lm, hp⟩ : ∃ h l, Tw (l2 * q) h l := ⟨l2 * q / 18446744073709551616, l2 * q % 18446744073709551616, by omega, by omega, by omega⟩
  have k1 := fun w => tmul_any e2 hq hp w
  obtain ⟨es, s1, s2⟩ := hs
  obtain ⟨ep, p1, p2⟩ := hp
  obtain ⟨M, hM⟩ : ∃ M, M = h2 * q := ⟨_, rfl⟩
  have ex : d * q = M * 18446744073709551616 + l2 * q := by rw [ed, Nat.add_mul, hM, Nat.mul_right_comm]
  rw [ex, ep] at es
  have f1 : lm = l := by omega
  have f2 : hm + M = h := by omega
  have v1 : IntKind.u64.wrap ((h2 : Int) * q) = M := by rw [mulN, ← hM]; exact wrapU M (by omega)
  have v2 : IntKind.u64.wrap ((hm : Int) + M) = h := by rw [addN, f2]; exact wrapU h (by omega)
  clear ed lp es ep ex hM f2
  subst f1
  go_enter Try.func27, Try.ntmps27
  go_wp2_with (go_at_call 19; refine (k1 _).mono ?_; rintro e w1 ⟨rfl, hb1⟩; obtain ⟨hc1, hf1⟩ := bcell hb1; have z0 : w.heap.size + 1 < w1.heap.size := (by have := hb1.size; simp at this; omega); have z1 : w.heap.size < w1.heap.size := (by omega))
  refine bodyPost_ret (v := .agg #[.int .u64 h, .int .u64 lm]) (by simp [results, Try.results27, go_sem, hc1, z0]) rfl (hQ.out _ _ ⟨rfl, ?_⟩)
  exact bmore (bset (bset (bthen (bmore (bmore (Below.refl _ _) _) _) hb1) (by omega) _ _) (by omega) _ _) _
/-- the guess that leaves room for one more -/
theorem pguess_math {a d j T v q : Nat} (ha : a < 340282366920938463463374607431768211456) (hT : T = 2 ^ (j + 1)) (hv : v = d / T) (hv2 : 9223372036854775808 ≤ v)
    (hq : q = a / 2 / v / 2 ^ j) : (q - min q 1) * d ≤ a ∧ a < (q - min q 1 + 2) * d := by
  have hT2 : T = 2 ∨ 4 ≤ T := by
    rcases Nat.eq_zero_or_pos j with h | h
    · left; rw [hT, h]
    · right; rw [hT]; exact Nat.le_trans (show 4 ≤ 2 ^ 2 by decide) (Nat.pow_le_pow_right (by decide) (by omega))
  have hT0 : 0 < T := by omega
  have hD : v * T ≤ d := by rw [hv]; exact Nat.div_mul_le_self d T
  have hD2 : d < v * T + T := by
    have := Nat.mod_lt d hT0
    have h2 := Nat.div_add_mod' d T
    rw [← hv] at h2
    omega
  have hD3 : 9223372036854775808 * T ≤ v * T := Nat.mul_le_mul_right T hv2
  have hq2 : q = a / (v * T) := by
    rw [hq, Nat.div_div_eq_div_mul, Nat.div_div_eq_div_mul]
    congr 1
    rw [hT, Nat.pow_succ, Nat.mul_left_comm, Nat.mul_comm 2]
  obtain ⟨D, eD⟩ : ∃ D, D = v * T := ⟨_, rfl⟩
  rw [← eD] at hD hD2 hD3 hq2
  have hD0 : 0 < D := by omega
  have q1 : q * D ≤ a := by rw [hq2]; exact Nat.div_mul_le_self a D
  have q2 : a < (q + 1) * D := by
    have := Nat.lt_div_mul_add (a := a) hD0
    rw [← hq2] at this
    rw [Nat.add_mul, Nat.one_mul]
    exact this
  clear hq hq2 hv eD hT
  by_cases h0 : q = 0
  · subst h0
    simp only [Nat.zero_min, Nat.sub_self, Nat.zero_mul, Nat.zero_add]
    refine ⟨Nat.zero_le _, ?_⟩
    omega
  · obtain ⟨i, rfl⟩ : ∃ i, q = i + 1 := ⟨q - 1, by omega⟩
    rw [show min (i + 1) 1 = 1 by omega, Nat.add_sub_cancel]
    constructor
    · have h1 : (i + 1) * (9223372036854775808 * T) ≤ (i + 1) * D := Nat.mul_le_mul_left _ hD3
      have h2 : i * d ≤ i * (D + (T - 1)) := Nat.mul_le_mul_left _ (by omega)
      have h3 : i * (T - 1) ≤ D := by
        rcases hT2 with h | h
        · subst h; omega
        · have h4 : i * (T - 1) ≤ (i + 1) * T := Nat.mul_le_mul (by omega) (by omega)
          have h5 : (i + 1) * (9223372036854775808 * T) = 9223372036854775808 * ((i + 1) * T) := Nat.mul_left_comm _ _ _
          rw [h5] at h1
          generalize (i + 1) * T = X at *
          omega
      rw [Nat.mul_add] at h2
      rw [Nat.add_mul, Nat.one_mul] at q1
      generalize i * D = Y at *
      omega
    · have h1 : (i + 1 + 1) * D ≤ (i + 2) * d := Nat.mul_le_mul (by omega) hD
      omega
set_option maxHeartbeats 1000000 in
theorem pguess_any {a h1 l1 d h2 l2 : Nat} (ha : Tw a h1 l1) (hd : Tw d h2 l2) (hn : 0 < h2) (w : World) :
    Calls Try.prog 25 #[.agg #[.int .u64 h1, .int .u64 l1], .agg #[.int .u64 h2, .int .u64 l2]] w fun e w' => (∃ q : Nat, e = .returned (.int .u64 q) ∧ q ≤ 18446744073709551615 ∧ q * d ≤ a ∧ a < (q + 2) * d) ∧ Below w.heap.size w w' := by
  refine cps fun Q hQ => ?_
  have la := ha.lt
  have ld := hd.lt
  have bd : blen d ≤ 128 := blen_le.2 ld
  have bd2 : ¬ blen d ≤ 64 := fun h => by have := blen_le.1 h; have := hd.eq; omega
  obtain ⟨j, hj⟩ : ∃ j, j = blen d - 65 := ⟨_, rfl⟩
  obtain ⟨k, hk⟩ : ∃ k, k = 63 - j := ⟨_, rfl⟩
  have hkb : k + blen d = 128 := by omega
  have b1 : d < 2 ^ blen d := blen_le.1 (Nat.le_refl _)
  have b2 : 2 ^ (blen d - 1) ≤ d := Nat.le_of_not_lt fun h => by have := blen_le.2 h; omega
  have p0 : 0 < 2 ^ k := Nat.pow_pos (by decide)
  have e1 : 2 ^ blen d * 2 ^ k = 2 ^ 128 := by rw [← Nat.pow_add]; congr 1; omega
  have e2 : 2 ^ (blen d - 1) * 2 ^ k = 2 ^ 127 := by rw [← Nat.pow_add]; congr 1; omega
  have d1 : d * 2 ^ k < 2 ^ 128 := by rw [← e1]; exact Nat.mul_lt_mul_of_pos_right b1 p0
  have d2 : 2 ^ 127 ≤ d * 2 ^ k := by rw [← e2]; exact Nat.mul_le_mul_right _ b2
  have e3 : d / 2 ^ (j + 1) = d * 2 ^ k / 2 ^ 64 := by
    rw [show (64 : Nat) = (j + 1) + k by omega, Nat.pow_add 2 (j + 1) k, Nat.mul_div_mul_right _ _ p0]
  obtain ⟨D, hD⟩ : ∃ D, D = d * 2 ^ k := ⟨_, rfl⟩
  rw [← hD] at d1 d2 e3
  obtain ⟨hh, ll, th⟩ : ∃ h l, Tw D h l := ⟨D / 18446744073709551616, D % 18446744073709551616, by omega, by omega, by omega⟩
  have hne : d ≠ 0 := by have := hd.eq; omega
  have k1 := fun w => tnorm_any hd hne hkb (by rw [← hD, Nat.mod_eq_of_lt (by omega)]; exact th) w
  obtain ⟨h3, l3, t3⟩ : ∃ h l, Tw (a / 2 ^ 1) h l := ⟨a / 2 ^ 1 / 18446744073709551616, a / 2 ^ 1 % 18446744073709551616, by omega, by omega, by omega⟩
  have k2 := fun w => tshr_any 1 (by decide) ha t3 rfl w
  have hh2 : 9223372036854775808 ≤ hh := by have := th.eq; have := th.lo; omega
  have h3b : h3 < hh := by have := t3.eq; omega
  obtain ⟨q0, hq0⟩ : ∃ q, q = a / 2 / hh := ⟨_, rfl⟩
  have k3 := fun w => div64_q (a := a / 2) (q := q0) t3.eq h3b t3.lo th.hi hq0 rfl w
  obtain ⟨q1, hq1⟩ : ∃ q, q = q0 / 2 ^ j := ⟨_, rfl⟩
  have fin := pguess_math (a := a) (d := d) (j := j) (v := hh) (q := q1) la rfl (by rw [e3]; have := th.eq; have := th.lo; omega) hh2 (by rw [hq1, hq0])
  have q0b : q0 ≤ 18446744073709551615 := by
    have : q0 < 18446744073709551616 := by
      rw [hq0]
      refine Nat.div_lt_of_lt_mul ?_
      have := Nat.mul_le_mul (show h3 + 1 ≤ hh by omega) (Nat.le_refl 18446744073709551616)
      have := t3.eq
      have := t3.lo
      omega
    omega
  have q1b : q1 ≤ q0 := by rw [hq1]; exact Nat.div_le_self _ _
  have v1 : (63 : Int) - k = j := by omega
  have v2 : (q0 : Int) / 2 ^ j = q1 := by rw [hq1]; simp
  obtain ⟨q, hq⟩ : ∃ q, q = q1 - min q1 1 := ⟨_, rfl⟩
  rw [← hq] at fin
  have HF : Hid (q ≤ 18446744073709551615 ∧ q * d ≤ a ∧ a < (q + 2) * d) := ⟨by omega, fin.1, fin.2⟩
  have HM : Hid (q = q1 - min q1 1 ∧ q1 ≤ 18446744073709551615) := ⟨hq, by omega⟩
  have k63 : k ≤ 63 := by omega
  generalize decide (a % 2 ^ 1 ≠ 0) = c at *
  generalize a / 2 % hh = r3 at *
  clear la ld bd bd2 hkb b1 b2 p0 e1 e2 d1 d2 e3 hD th hne t3 hh2 h3b hq0 hq1 fin hq hj hk q0b q1b ha hd
  go_enter Try.func25, Try.ntmps25
  go_wp2_with (first
    | (go_at_call 44; refine (k1 _).mono ?_; rintro e w1 ⟨rfl, hb1⟩; obtain ⟨hc1, hf1⟩ := bcell hb1; have z0 : w.heap.size + 1 < w1.heap.size := (by have := hb1.size; simp at this; omega); have z1 : w.heap.size < w1.heap.size := (by omega))
    | (go_at_call 45; refine (k2 _).mono ?_; rintro e w2 ⟨rfl, hb2⟩; obtain ⟨hc2, hf2⟩ := bcell hb2; have z2 : w1.heap.size < w2.heap.size := (by have := hb2.size; simp at this; omega))
    | (go_at_call 23; refine (k3 _).mono ?_; rintro e w' ⟨rfl, n, rfl⟩))
  all_goals
    refine hQ.out _ _ ⟨⟨q, congrArg (fun x => Ending.returned (Value.int .u64 x)) (by have := HM.out; rw [IntKind.wrap_u64]; omega), HF.out⟩, ?_⟩
    exact bdrewN (bmore (bthen (bmore (bthen (bmore (bmore (Below.refl _ _) _) _) hb1) _) hb2) _) _
end Go.Proofs.Ytceejccjamakmaa
