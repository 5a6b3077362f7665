import Derived.Test.YthchcocolclpoaaGreatDoorNumsC
namespace Go.Proofs.YthchcocolclpoaaGreatDoor
open Go.ChangeShapes Go.WideShapes Go.ChangeAt Go.RowKit
set_option linter.unusedVariables false
set_option maxRecDepth 100000

theorem two_int (kk : Int) (k : Nat) (hkk : kk = (k : Int)) (hk : k ≤ 24) (w : World) :
    Calls Tryz.prog 69 #[.int .i64 kk] w fun e w' => e = .returned (.int .i64 (2 ^ k : Nat)) ∧ w' = w := by
  rw [hkk]; exact two_any k hk w

theorem digit_int' (v : Value) (n : Nat) (ii : Int) (i d : Nat) (hii : ii = (i : Int)) (hi : i < 4611686018427387904) (w : World) (hr : Row w v (dig n)) (hd : d = top n i % 16777216) :
    Calls Tryz.prog 48 #[v, .int .i64 ii] w fun e w' => e = .returned (.int .i64 d) ∧ w' = w := by
  rw [hii]; exact digit_dig v n i d hi w hr hd

/-! ### how many bits -/
def blen (n : Nat) : Nat := if h : n = 0 then 0 else blen (n / 2) + 1
theorem blen_zero : blen 0 = 0 := by unfold blen; simp
theorem blen_pos {n : Nat} (h : n ≠ 0) : blen n = blen (n / 2) + 1 := by
  conv => lhs; unfold blen
  simp [h]
theorem blen_le {n m : Nat} : blen n ≤ m ↔ n < 2 ^ m := by
  induction m generalizing n with
  | zero =>
    by_cases h : n = 0
    · subst h; simp [blen_zero]
    · rw [blen_pos h]; simp; exact h
  | succ m ih =>
    by_cases h : n = 0
    · subst h; simp [blen_zero]; exact Nat.pow_pos (by decide)
    · rw [blen_pos h, Nat.add_le_add_iff_right, ih, Nat.pow_succ]; omega
theorem blen_shift {a k : Nat} (h : a / 2 ^ k ≠ 0) : blen a = blen (a / 2 ^ k) + k := by
  induction k with
  | zero => simp
  | succ k ih =>
    have e : a / 2 ^ (k + 1) = a / 2 ^ k / 2 := by rw [Nat.pow_succ, Nat.div_div_eq_div_mul]
    have h1 : a / 2 ^ k ≠ 0 := by intro h2; rw [e, h2] at h; simp at h
    rw [ih h1, blen_pos h1, e]; omega
theorem blen_top {a : Nat} (h : a ≠ 0) : blen a = blen (top a (dlen a - 1)) + 24 * (dlen a - 1) := by
  have e : top a (dlen a - 1) = a / 2 ^ (24 * (dlen a - 1)) := by
    rw [top_eq, show (16777216 : Nat) = 2 ^ 24 by decide, ← Nat.pow_mul]
  have h2 := (dig_last h).1
  have h3 : top a (dlen a - 1) ≠ 0 := by intro h4; rw [h4] at h2; simp at h2
  rw [e] at h3 ⊢
  exact blen_shift h3

set_option maxHeartbeats 1000000 in
theorem nword_any (va : Value) (a : Nat) (w : World) (ha : Row w va (dig a)) :
    Calls Tryz.prog 46 #[va] w fun e w' => e = .returned (.int .u64 (a % 2 ^ 64 : Nat)) ∧ w' = w := by
  refine cps fun Q hQ => ?_
  have HR : Hid (Row w va (dig a)) := ha
  obtain ⟨d0, hd0⟩ : ∃ d, d = top a 0 % 16777216 := ⟨_, rfl⟩
  obtain ⟨d1, hd1⟩ : ∃ d, d = top a 1 % 16777216 := ⟨_, rfl⟩
  obtain ⟨d2, hd2⟩ : ∃ d, d = top a 2 % 16777216 := ⟨_, rfl⟩
  have b0 : d0 ≤ 16777215 := by omega
  have b1 : d1 ≤ 16777215 := by omega
  have b2 : d2 ≤ 16777215 := by omega
  have H0 : Hid (d0 = top a 0 % 16777216) := hd0
  have H1 : Hid (d1 = top a 1 % 16777216) := hd1
  have H2 : Hid (d2 = top a 2 % 16777216) := hd2
  have HV : Hid (((d2 * 16777216 + d1) * 16777216 + d0) % 18446744073709551616 = a % 2 ^ 64) := by
    show _ = _
    have e0 : top a 0 = a := rfl
    have e1 : top a 1 = a / 16777216 := rfl
    have e2 : top a 2 = a / 16777216 / 16777216 := rfl
    omega
  generalize hVV : a % 2 ^ 64 = VV at *
  clear ha hd0 hd1 hd2 hVV
  go_enter Tryz.func46, Tryz.ntmps46
  go_wp2
  go_loop [3, 4] (fun v i => (i = .int .i64 2 ∧ v = .int .u64 0) ∨ (i = .int .i64 1 ∧ v = .int .u64 (d2 : Nat)) ∨ (i = .int .i64 0 ∧ v = .int .u64 (d2 * 16777216 + d1 : Nat)) ∨ (i = .int .i64 (-1) ∧ v = .int .u64 (VV : Nat))) (fun _ i => (intOf i + 1).toNat)
  case atStart => exact .inl ⟨rfl, rfl⟩
  case round =>
    rcases hrel with ⟨rfl, rfl⟩ | ⟨rfl, rfl⟩ | ⟨rfl, rfl⟩ | ⟨rfl, rfl⟩
    · go_wp2_with (go_at_call 48; refine (digit_int' _ a 2 2 d2 rfl (by omega) _ HR.out H2.out).mono ?_; rintro e w' ⟨rfl, hw⟩; rw [hw]; clear hw w')
      go_round
      case rel => exact .inr (.inl ⟨rfl, rfl⟩)
      case measure => simp [intOf]
    · go_wp2_with (go_at_call 48; refine (digit_int' _ a 1 1 d1 rfl (by omega) _ HR.out H1.out).mono ?_; rintro e w' ⟨rfl, hw⟩; rw [hw]; clear hw w')
      go_round
      case rel => exact .inr (.inr (.inl ⟨rfl, by go_num⟩))
      case measure => simp [intOf]
    · go_wp2_with (go_at_call 48; refine (digit_int' _ a 0 0 d0 rfl (by omega) _ HR.out H0.out).mono ?_; rintro e w' ⟨rfl, hw⟩; rw [hw]; clear hw w')
      go_round
      case rel =>
        refine .inr (.inr (.inr ⟨rfl, ?_⟩))
        refine congrArg (Value.int IntKind.u64) ?_
        rw [IntKind.wrap_u64, IntKind.wrap_u64, ← HV.out]
        omega
      case measure => simp [intOf]
    · go_wp2
      exact hQ.out _ _ ⟨rfl, rfl⟩

/-! ### comparing -/
def cmpN (a b : Nat) : Int := if a < b then -1 else if a = b then 0 else 1
theorem cmpN_lt {a b : Nat} (h : a < b) : cmpN a b = -1 := by simp [cmpN, h]
theorem cmpN_gt {a b : Nat} (h : b < a) : cmpN a b = 1 := by unfold cmpN; rw [if_neg (by omega), if_neg (by omega)]
theorem cmpN_eq (a : Nat) : cmpN a a = 0 := by simp [cmpN]
/-! ### is one of the lowest bits 1? -/
theorem low_part (a i m : Nat) (hm : m ≤ 24) (h : 2 ^ (24 * i) ∣ a) : top a i % 16777216 % 2 ^ m = 0 ↔ 2 ^ (24 * i + m) ∣ a := by
  obtain ⟨x, rfl⟩ := h
  have e : top (2 ^ (24 * i) * x) i = x := by
    rw [top_eq, show (16777216 : Nat) = 2 ^ 24 by decide, ← Nat.pow_mul, Nat.mul_div_cancel_left _ (Nat.pow_pos (by decide))]
  have hd : 2 ^ m ∣ 16777216 := by rw [show (16777216 : Nat) = 2 ^ 24 by decide]; exact Nat.pow_dvd_pow 2 hm
  rw [e, Nat.mod_mod_of_dvd _ hd, Nat.pow_add, Nat.mul_dvd_mul_iff_left (Nat.pow_pos (by decide))]
  exact (Nat.dvd_iff_mod_eq_zero).symm
theorem low_end (a i : Nat) (h : 2 ^ (24 * i) ∣ a) (hi : dlen a ≤ i) : a = 0 := by
  have h1 := lt_of_dlen_le hi
  rw [show (16777216 : Nat) = 2 ^ 24 by decide, ← Nat.pow_mul] at h1
  exact Nat.eq_zero_of_dvd_of_lt h h1
end Go.Proofs.YthchcocolclpoaaGreatDoor
