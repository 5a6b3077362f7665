import Derived.Test.YtajlgpamcpgalaaLead
namespace Go.Proofs.Ytajlgpamcpgalaa
open Go.ChangeShapes Go.WideShapes Go.ChangeAt Go.RowKit

theorem lowest_any (n : Nat) (hn : n ≤ 64) (w : World) :
    Calls Try.prog 79 #[.int .i64 n] w fun e w' => e = .returned (.int .u64 ((2^n - 1 : Nat) : Int)) ∧ w' = w := by
  refine cps fun Q hQ => ?_
  go_enter Try.func79, Try.ntmps79
  go_wp2
  refine hQ.out _ _ ⟨congrArg Ending.returned (congrArg (Value.int IntKind.u64) (wrapMask n hn)), rfl⟩

/-- may there be a field? -/
def isField (at_ n : Int) : Bool := decide (0 ≤ at_ ∧ at_ ≤ 64 ∧ 0 ≤ n ∧ n ≤ 64 - at_)
theorem fits_any (at_ n : Int) (w : World) :
    Calls Try.prog 78 #[.int .i64 at_, .int .i64 n] w fun e w' => e = .returned (.bool (isField at_ n)) ∧ w' = w := by
  refine cps fun Q hQ => ?_
  go_enter Try.func78, Try.ntmps78
  go_wp2
  all_goals
    refine hQ.out _ _ ⟨congrArg Ending.returned (congrArg Value.bool ?_), rfl⟩
    simp only [isField, Bool.decide_and]
    simp [*] <;> omega
/-! ### Mask -/
theorem mask_step (k : Nat) : IntKind.u64.wrap (IntKind.u64.wrap (2 * ((2^k - 1 : Nat) : Int)) + 1) = (((2^(k+1) - 1) % 2^64 : Nat) : Int) := by
  rw [IntKind.wrap_u64, IntKind.wrap_u64]
  have : 0 < 2^k := Nat.pos_of_ne_zero (by simp)
  rw [Nat.pow_succ]; omega
/-! ### Field -/
def fieldOf (x at_ n : Nat) : Nat := (x >>> at_) % 2 ^ n
theorem lfield_ok (x : Nat) (at_ n : Int) (hx : x < 2^64) (hf : isField at_ n = true) (w : World) :
    Calls Try.prog 66 #[.int .u64 x, .int .i64 at_, .int .i64 n] w fun e w' => e = .returned (.tuple #[.int .u64 (fieldOf x at_.toNat n.toNat : Nat), .nilIface]) ∧ ∃ q, w' = w.drewN q := by
  have hf' := hf
  simp [isField] at hf'
  obtain ⟨a, rfl⟩ := Int.eq_ofNat_of_zero_le hf'.1
  obtain ⟨m, rfl⟩ := Int.eq_ofNat_of_zero_le hf'.2.2.1
  refine cps fun Q hQ => ?_
  go_enter Try.func66, Try.ntmps66
  go_wp2_with (go_at_call 78; refine (fits_any _ _ _).mono ?_; rintro e w' ⟨rfl, rfl⟩)
  go_quiet ((go_at_call 79; exact Calls.quiet_of_same (lowest_any m (by omega) _)))
  go_wp2
  refine hQ.out _ _ ⟨ret_ix ?_, nq, rfl⟩
  rw [shrN, u64_and_nat _ _ (Nat.lt_of_le_of_lt (Nat.shiftRight_le _ _) hx) (mask_lt m (by omega))]
  simp [fieldOf, Nat.and_two_pow_sub_one_eq_mod]
theorem lfield_no (x : Nat) (at_ n : Int) (hf : isField at_ n = false) (w : World) :
    Calls Try.prog 66 #[.int .u64 x, .int .i64 at_, .int .i64 n] w fun e w' => e = .returned (.tuple #[.int .u64 0, .iface 51 (.int .i64 1)]) ∧ w' = w := by
  refine cps fun Q hQ => ?_
  go_enter Try.func66, Try.ntmps66
  go_wp2_with (go_at_call 78; refine (fits_any _ _ _).mono ?_; rintro e w' ⟨rfl, rfl⟩)
  refine hQ.out _ _ ⟨rfl, rfl⟩

def rfieldOf (x at_ n : Nat) : Nat := numOf (((bitsOf x 64).drop (64 - at_ - n)).take (64 - at_ - (64 - at_ - n)))
theorem isField_bounds {a m : Nat} (h : isField a m = true) : a + m ≤ 64 := by simp [isField] at h; omega
theorem field_eq (x a m : Nat) (h : a + m ≤ 64) : fieldOf x a m = rfieldOf x a m := by
  apply Nat.eq_of_testBit_eq
  intro i
  rw [rfieldOf, numOf_testBit, fieldOf, Nat.testBit_mod_two_pow, Nat.testBit_shiftRight]
  simp only [List.length_take, List.length_drop, bitsOf_length]
  have e1 : min (64 - a - (64 - a - m)) (64 - (64 - a - m)) = m := by omega
  rw [e1]
  by_cases hi : i < m
  · simp only [hi, decide_true, Bool.true_and]
    rw [List.getD_eq_getElem?_getD, List.getElem?_take_of_lt (by omega), List.getElem?_drop, bitsOf_get x 64 _ (by omega)]
    have e2 : 64 - 1 - (64 - a - m + (m - 1 - i)) = a + i := by omega
    rw [e2]; rfl
  · simp [hi]

/-! ### Put -/
def thereOf (at_ n : Nat) : Nat := ((2 ^ n - 1) <<< at_) % 2 ^ 64
def putOf (x at_ n v : Nat) : Nat := (x &&& (18446744073709551615 - thereOf at_ n)) ||| (((v <<< at_) % 2 ^ 64) &&& thereOf at_ n)
def rputL (x at_ n v : Nat) : List Bool := (bitsOf x 64).take (64 - at_ - n) ++ (bitsOf v n ++ ((bitsOf x 64).drop (64 - at_)).take (64 - (64 - at_)))
theorem there_bit (a m i : Nat) (h : a + m ≤ 64) : (thereOf a m).testBit i = (decide (a ≤ i) && decide (i < a + m)) := by
  rw [thereOf, Nat.testBit_mod_two_pow, Nat.testBit_shiftLeft, Nat.testBit_two_pow_sub_one]
  by_cases h1 : a ≤ i <;> by_cases h2 : i < a + m <;> simp [h1, h2] <;> omega
theorem not_bit (t i : Nat) (ht : t < 2 ^ 64) (hi : i < 64) : (18446744073709551615 - t).testBit i = !t.testBit i := by
  have := Nat.testBit_two_pow_sub_succ (x := t) (n := 64) ht i
  rw [show 18446744073709551615 - t = 2 ^ 64 - (t + 1) by omega, this]
  simp [hi]
theorem put_eq (x a m v : Nat) (hx : x < 2 ^ 64) (h : a + m ≤ 64) : putOf x a m v = numOf (rputL x a m v) := by
  have ht : thereOf a m < 2 ^ 64 := Nat.mod_lt _ (by decide)
  have hl : (rputL x a m v).length = 64 := by simp [rputL, bitsOf_length]; omega
  apply ext64
  · exact Nat.or_lt_two_pow (Nat.lt_of_le_of_lt Nat.and_le_left hx) (Nat.lt_of_le_of_lt Nat.and_le_right ht)
  · have := numOf_lt (rputL x a m v); rwa [hl] at this
  intro i hi
  rw [numOf_testBit, hl]
  simp only [putOf, Nat.testBit_or, Nat.testBit_and, not_bit _ i ht hi, there_bit a m i h, Nat.testBit_mod_two_pow, Nat.testBit_shiftLeft]
  have hg : (rputL x a m v).getD (64 - 1 - i) false = if i < a then x.testBit i else if i < a + m then v.testBit (i - a) else x.testBit i := by
    rw [rputL, List.getD_eq_getElem?_getD]
    rcases Nat.lt_or_ge i a with h1 | h1
    · rw [if_pos h1, List.getElem?_append_right (by simp [bitsOf_length]; omega), List.getElem?_append_right (by simp [bitsOf_length]; omega)]
      simp only [List.length_take, bitsOf_length]
      rw [List.getElem?_take_of_lt (by omega), List.getElem?_drop, bitsOf_get x 64 _ (by omega)]
      simp only [Option.getD_some]; congr 1; omega
    · rw [if_neg (by omega)]
      rcases Nat.lt_or_ge i (a + m) with h2 | h2
      · rw [if_pos h2, List.getElem?_append_right (by simp [bitsOf_length]; omega), List.getElem?_append_left (by simp [bitsOf_length]; omega)]
        simp only [List.length_take, bitsOf_length]
        rw [bitsOf_get v m _ (by omega)]
        simp only [Option.getD_some]; congr 1; omega
      · rw [if_neg (by omega), List.getElem?_append_left (by simp [bitsOf_length]; omega), List.getElem?_take_of_lt (by omega), bitsOf_get x 64 _ (by omega)]
        simp only [Option.getD_some]; congr 1; omega
  rw [hg]
  by_cases h1 : i < a
  · have : ¬ a ≤ i := by omega
    simp [h1, this, hi]
  · have h1' : a ≤ i := by omega
    by_cases h2 : i < a + m
    · simp [h1, h1', h2, hi]
    · simp [h1, h1', h2, hi]
end Go.Proofs.Ytajlgpamcpgalaa
