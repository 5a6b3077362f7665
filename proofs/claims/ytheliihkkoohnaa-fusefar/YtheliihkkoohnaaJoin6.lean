import Derived.Test.YtheliihkkoohnaaJoin1
import Derived.Test.YtheliihkkoohnaaJoin2
import Derived.Test.YtheliihkkoohnaaJoin4
import Derived.Test.YtheliihkkoohnaaJoin5
import Derived.Test.YtheliihkkoohnaaJoin3
namespace Go.Proofs.Ytheliihkkoohnaa
open Go.ChangeShapes Go.WideShapes Go.ChangeAt Go.RowKit
set_option linter.unusedVariables false
set_option linter.unusedSimpArgs false
set_option maxRecDepth 100000

/-! ### ranks, neighbours, signs: what is answered -/
def cmpR (n a b : Nat) : Int := if extOf a n < extOf b n then -1 else if extOf a n > extOf b n then 1 else 0
def minO (n a b : Nat) : Nat := if cmpR n a b < 0 then a % 2 ^ n else b % 2 ^ n
def maxO (n a b : Nat) : Nat := if 0 < cmpR n a b then a % 2 ^ n else b % 2 ^ n
def stepO (n p by' last : Nat) : Nat := if p % 2 ^ n = 2 ^ (n - 1) ∨ p % 2 ^ n = last then p % 2 ^ n else (p % 2 ^ n + by') % 2 ^ 64 % 2 ^ n
def nextO (n p : Nat) : Nat := stepO n p 1 (2 ^ (n - 1) - 1)
def prevO (n p : Nat) : Nat := stepO n p 18446744073709551615 ((2 ^ (n - 1) + 1) % 2 ^ 64)
def negO (n p : Nat) : Nat := minusU p % 2 ^ n
def absO (n p : Nat) : Nat := if extOf p n < 0 then negO n p else p % 2 ^ n
def narB (n p : Nat) : Bool := decide (p % 2 ^ n = 2 ^ (n - 1))
def stepsO (n a b : Nat) : Nat := u64Of (if extOf a n < extOf b n then extOf b n - extOf a n else extOf a n - extOf b n)
theorem cmpR_cases (n a b : Nat) : (cmpR n a b = -1 ∧ extOf a n < extOf b n) ∨ (cmpR n a b = 1 ∧ extOf b n < extOf a n) ∨ (cmpR n a b = 0 ∧ extOf a n = extOf b n) := by
  unfold cmpR
  by_cases h : extOf a n < extOf b n
  · rw [if_pos h]; exact .inl ⟨rfl, h⟩
  · rw [if_neg h]
    by_cases h2 : extOf a n > extOf b n
    · rw [if_pos h2]; exact .inr (.inl ⟨rfl, h2⟩)
    · rw [if_neg h2]; exact .inr (.inr ⟨rfl, by omega⟩)
/-! ### steps -/
end Go.Proofs.Ytheliihkkoohnaa

namespace Go.Proofs.Ytheliihkkoohnaa
open Go.ChangeShapes Go.WideShapes Go.ChangeAt Go.RowKit
set_option linter.unusedVariables false
set_option linter.unusedSimpArgs false
set_option maxRecDepth 100000

theorem abs8_no (n : Int) (p : Nat) (hn : isW n = false) (w : World) :
    Calls Try.prog 20 #[.int .i64 n, .int .u64 p] w fun e w' => e = .returned (.tuple #[.int .u64 0, .int .i64 2]) ∧ Below w.heap.size w w' := by
  have k1 := rrank_no n p hn
  clear hn
  refine cps fun Q hQ => ?_
  go_enter Try.func20, Try.ntmps20
  go_wp2_with (go_at_call 34; refine (k1 _).mono ?_; rintro e wx ⟨rfl, hwx⟩; rw [hwx]; clear hwx wx)
  exact hQ.out _ _ ⟨rfl, Below.refl _ _⟩
theorem abs8_ok (n p : Nat) (hn : Wd n) (hp : p < 2 ^ 64) (w : World) :
    Calls Try.prog 20 #[.int .i64 n, .int .u64 p] w fun e w' => e = .returned (.tuple #[.int .u64 (absO n p : Nat), .int .i64 0]) ∧ Below w.heap.size w w' := by
  have k1 := rrank_ok n p hn
  have k2 := neg6_any n p hn hp
  have k3 := fold6_any n p hn
  unfold absO negO
  clear hn
  generalize minusU p % 2 ^ n = r at *
  generalize p % 2 ^ n = x at *
  generalize extOf p n = t at *
  refine cps fun Q hQ => ?_
  by_cases h : t < 0
  · rw [if_pos h] at hQ
    have d1 : decide (t < 0) = true := decide_eq_true h
    clear h
    go_enter Try.func20, Try.ntmps20
    go_wp2_with (first
      | (go_at_call 34; refine (k1 _).mono ?_; rintro e w1 ⟨rfl, hb1⟩)
      | (go_at_call 17; refine (k2 _).mono ?_; rintro e w2 ⟨rfl, hb2⟩))
    exact hQ.out _ _ ⟨rfl, bthenS hb1 hb2⟩
  · rw [if_neg h] at hQ
    have d1 : decide (t < 0) = false := decide_eq_false h
    clear h
    go_enter Try.func20, Try.ntmps20
    go_wp2_with (first
      | (go_at_call 34; refine (k1 _).mono ?_; rintro e w1 ⟨rfl, hb1⟩)
      | (go_at_call 18; refine (k3 _).mono ?_; rintro e w2 ⟨rfl, hb2⟩))
    exact hQ.out _ _ ⟨rfl, bthenS hb1 hb2⟩
theorem u64_sub (x y : Int) : IntKind.u64.wrap (IntKind.u64.wrap x - IntKind.u64.wrap y) = (u64Of (x - y) : Int) := by
  rw [IntKind.wrap_u64, IntKind.wrap_u64, IntKind.wrap_u64]; unfold u64Of; omega
def clampV (n p lo hi : Nat) : Int × Nat := if narB n p ∨ narB n lo ∨ narB n hi then (9, 0) else if 0 < cmpR n lo hi then (1, 0) else (0, minO n (maxO n p lo) hi)
end Go.Proofs.Ytheliihkkoohnaa

namespace Go.Proofs.Ytheliihkkoohnaa
open Go.ChangeShapes Go.WideShapes Go.ChangeAt Go.RowKit
set_option linter.unusedVariables false
set_option linter.unusedSimpArgs false
set_option maxRecDepth 100000

/-! ### ranks (plain mathematics) -/
theorem extOf_val (n x : Nat) (hn : Wd n) : extOf x n = if x % 2 ^ n < 2 ^ (n - 1) then ((x % 2 ^ n : Nat) : Int) else ((x % 2 ^ n : Nat) : Int) - ((2 ^ n : Nat) : Int) := by
  obtain ⟨H, h1, h2, h3, _⟩ := wd_pows hn
  have hw := wd_le hn
  have hm := Nat.mod_lt x (show 0 < 2 ^ n by omega)
  have ht := top_of n _ hn hm
  rw [← testBit_low x n (by omega)] at ht
  unfold extOf
  rw [ht]
  by_cases h : x % 2 ^ n < 2 ^ (n - 1)
  · rw [if_pos h, decide_eq_false (by omega)]; simp
  · rw [if_neg h, decide_eq_true (by omega)]; simp
theorem mod_mod64 (n z : Nat) (hn : Wd n) : z % 2 ^ 64 % 2 ^ n = z % 2 ^ n := Nat.mod_mod_of_dvd z (Nat.pow_dvd_pow 2 (wd_le hn).2)
theorem rank_range (n x : Nat) (hn : Wd n) : ∃ H : Nat, 2 ^ n = 2 * H ∧ 2 ^ (n - 1) = H ∧ 128 ≤ H ∧ -(H : Int) ≤ extOf x n ∧ extOf x n ≤ (H : Int) - 1 ∧ (narB n x = true ↔ extOf x n = -(H : Int)) ∧ H ≤ 9223372036854775808 := by
  obtain ⟨H, h1, h2, h3, q, hq, hq1⟩ := wd_pows hn
  have hm := Nat.mod_lt x (show 0 < 2 ^ n by omega)
  refine ⟨H, h1, h2, h3, ?_, ?_, ?_, ?_⟩
  · rw [extOf_val n x hn]; split <;> omega
  · rw [extOf_val n x hn]; split <;> omega
  · rw [extOf_val n x hn]
    unfold narB
    rw [decide_eq_true_eq]
    constructor
    · intro h; rw [if_neg (by omega)]; omega
    · intro h; split at h <;> omega
  · have := (two_pow_lt hn).2; omega
theorem rank_mod (n x : Nat) (hn : Wd n) : extOf (x % 2 ^ n) n = extOf x n := by
  rw [extOf_val n _ hn, extOf_val n x hn, Nat.mod_mod]
theorem rank_next (n p : Nat) (hn : Wd n) (H : Nat) (h2 : 2 ^ (n - 1) = H) : extOf (nextO n p) n = if extOf p n = -(H : Int) ∨ extOf p n = (H : Int) - 1 then extOf p n else extOf p n + 1 := by
  obtain ⟨H', h1, h2', h3, q, hq, hq1⟩ := wd_pows hn
  have hH : H' = H := by omega
  subst hH
  have hm := Nat.mod_lt p (show 0 < 2 ^ n by omega)
  unfold nextO stepO
  rw [mod_mod64 n _ hn]
  have e := extOf_val n p hn
  by_cases hc : p % 2 ^ n = 2 ^ (n - 1) ∨ p % 2 ^ n = 2 ^ (n - 1) - 1
  · rw [if_pos hc, rank_mod n p hn, if_pos (by rw [e]; split <;> omega)]
  · rw [if_neg hc, if_neg (by rw [e]; split <;> omega), extOf_val n _ hn, Nat.mod_mod, e]
    rw [h1] at *
    generalize p % (2 * H') = y at *
    by_cases h : y + 1 = 2 * H'
    · rw [h, Nat.mod_self]
      rw [if_pos (by omega), if_neg (by omega)]; omega
    · rw [Nat.mod_eq_of_lt (by omega)]
      split <;> split <;> omega
theorem rank_prev (n p : Nat) (hn : Wd n) (H : Nat) (h2 : 2 ^ (n - 1) = H) : extOf (prevO n p) n = if extOf p n = -(H : Int) ∨ extOf p n = 1 - (H : Int) then extOf p n else extOf p n - 1 := by
  obtain ⟨H', h1, h2', h3, q, hq, hq1⟩ := wd_pows hn
  have hH : H' = H := by omega
  subst hH
  have hm := Nat.mod_lt p (show 0 < 2 ^ n by omega)
  have hle := (two_pow_lt hn).2
  unfold prevO stepO
  rw [mod_mod64 n _ hn, Nat.mod_eq_of_lt (show 2 ^ (n - 1) + 1 < 2 ^ 64 by omega)]
  have e := extOf_val n p hn
  by_cases hc : p % 2 ^ n = 2 ^ (n - 1) ∨ p % 2 ^ n = 2 ^ (n - 1) + 1
  · rw [if_pos hc, rank_mod n p hn, if_pos (by rw [e]; split <;> omega)]
  · rw [if_neg hc, if_neg (by rw [e]; split <;> omega), extOf_val n _ hn, Nat.mod_mod, e]
    rw [h1] at *
    generalize p % (2 * H') = y at *
    by_cases h : y = 0
    · subst h
      have e2 : (0 + 18446744073709551615) % (2 * H') = 2 * H' - 1 := by
        rw [show 0 + 18446744073709551615 = (2 * H' - 1) + (2 * H') * (q - 1) by
          have : (2 * H') * (q - 1) + 2 * H' = 18446744073709551616 := by rw [← Nat.mul_succ, show (q - 1).succ = q by omega, hq, Nat.mul_comm]
          omega, Nat.add_mul_mod_self_left, Nat.mod_eq_of_lt (by omega)]
      rw [e2, if_neg (by omega), if_pos (by omega)]; omega
    · have e2 : (y + 18446744073709551615) % (2 * H') = y - 1 := by
        rw [show y + 18446744073709551615 = (y - 1) + (2 * H') * q by
          have : (2 * H') * q = 18446744073709551616 := by rw [hq, Nat.mul_comm]
          omega, Nat.add_mul_mod_self_left, Nat.mod_eq_of_lt (by omega)]
      rw [e2]
      split <;> split <;> omega
theorem rank_min (n a b : Nat) (hn : Wd n) : extOf (minO n a b) n = min (extOf a n) (extOf b n) := by
  unfold minO
  rcases cmpR_cases n a b with ⟨h, h2⟩ | ⟨h, h2⟩ | ⟨h, h2⟩ <;> rw [h]
  · rw [if_pos (by decide), rank_mod n a hn]; omega
  · rw [if_neg (by decide), rank_mod n b hn]; omega
  · rw [if_neg (by decide), rank_mod n b hn]; omega
theorem rank_max (n a b : Nat) (hn : Wd n) : extOf (maxO n a b) n = max (extOf a n) (extOf b n) := by
  unfold maxO
  rcases cmpR_cases n a b with ⟨h, h2⟩ | ⟨h, h2⟩ | ⟨h, h2⟩ <;> rw [h]
  · rw [if_neg (by decide), rank_mod n b hn]; omega
  · rw [if_pos (by decide), rank_mod n a hn]; omega
  · rw [if_neg (by decide), rank_mod n b hn]; omega
theorem rank_neg (n p : Nat) (hn : Wd n) (hp : p < 2 ^ 64) (hk : narB n p = false) : extOf (negO n p) n = -extOf p n := by
  obtain ⟨H, h1, h2, h3, _⟩ := wd_pows hn
  have hm := Nat.mod_lt p (show 0 < 2 ^ n by omega)
  unfold negO
  rw [minusU_mod n p hn hp, extOf_val n _ hn, extOf_val n p hn, Nat.mod_mod]
  unfold narB at hk
  have hk2 : ¬ p % 2 ^ n = 2 ^ (n - 1) := of_decide_eq_false hk
  rw [h1, h2] at *
  generalize p % (2 * H) = y at *
  by_cases h : y = 0
  · subst h; rw [Nat.sub_zero, Nat.mod_self, if_pos (by omega)]; simp
  · rw [Nat.mod_eq_of_lt (a := 2 * H - y) (by omega)]
    split <;> split <;> omega
/-- one on and one back; Min, Max, Clamp -/
theorem chain_facts (n p q : Nat) (hn : Wd n) :
    (cmpR n p (nextO n p) ≤ 0 ∧ stepsO n p (nextO n p) ≤ 1 ∧ (cmpR n p (nextO n p) = 0 ↔ stepsO n p (nextO n p) = 0)) ∧
    (stepsO n p (nextO n p) = 1 → cmpR n p (prevO n (nextO n p)) = 0) ∧
    stepsO n (minO n p q) (maxO n p q) = stepsO n q p ∧
    (∀ A, ((clampV n A (minO n p q) (maxO n p q)).1 = 9 ∧ (clampV n A (minO n p q) (maxO n p q)).2 = 0) ∨ ((clampV n A (minO n p q) (maxO n p q)).1 = 0 ∧ 0 ≤ cmpR n (clampV n A (minO n p q) (maxO n p q)).2 (minO n p q) ∧ 0 ≤ cmpR n (maxO n p q) (clampV n A (minO n p q) (maxO n p q)).2)) := by
  obtain ⟨H, h1, h2, h3, r1, r2, r3, h4⟩ := rank_range n p hn
  have e1 := rank_next n p hn H h2
  have e2 := rank_prev n (nextO n p) hn H h2
  have c1 := cmpR_cases n p (nextO n p)
  have c2 := cmpR_cases n p (prevO n (nextO n p))
  have s1 : stepsO n p (nextO n p) = u64Of (if extOf p n < extOf (nextO n p) n then extOf (nextO n p) n - extOf p n else extOf p n - extOf (nextO n p) n) := rfl
  have us : ∀ t : Int, 0 ≤ t → t ≤ 18446744073709551615 → ((u64Of t : Nat) : Int) = t := fun t a b => by unfold u64Of; omega
  have hs : (stepsO n p (nextO n p) = 0 ∧ extOf (nextO n p) n = extOf p n) ∨ (stepsO n p (nextO n p) = 1 ∧ extOf (nextO n p) n = extOf p n + 1) := by
    rw [s1]
    by_cases hc : extOf p n = -(H : Int) ∨ extOf p n = (H : Int) - 1
    · rw [if_pos hc] at e1
      rw [e1]
      refine .inl ⟨?_, rfl⟩
      rw [if_neg (by omega), Int.sub_self]; rfl
    · rw [if_neg hc] at e1
      rw [e1]
      refine .inr ⟨?_, rfl⟩
      rw [if_pos (by omega)]
      have := us (extOf p n + 1 - extOf p n) (by omega) (by omega)
      omega
  refine ⟨⟨?_, ?_, ?_⟩, ?_, ?_, ?_⟩
  · rcases c1 with ⟨a, b⟩ | ⟨a, b⟩ | ⟨a, b⟩ <;> rcases hs with ⟨s, t⟩ | ⟨s, t⟩ <;> omega
  · rcases hs with ⟨s, t⟩ | ⟨s, t⟩ <;> omega
  · rcases c1 with ⟨a, b⟩ | ⟨a, b⟩ | ⟨a, b⟩ <;> rcases hs with ⟨s, t⟩ | ⟨s, t⟩ <;> omega
  · intro hs1
    have ht : extOf (nextO n p) n = extOf p n + 1 := by rcases hs with ⟨s, t⟩ | ⟨s, t⟩ <;> omega
    have hb : extOf (prevO n (nextO n p)) n = extOf p n := by
      rw [e2, ht]
      by_cases hc : extOf p n = -(H : Int)
      · rw [if_pos (.inl hc)] at e1; omega
      · rw [if_neg (by omega)]; omega
    rcases c2 with ⟨a, b⟩ | ⟨a, b⟩ | ⟨a, b⟩ <;> omega
  · unfold stepsO
    rw [rank_min n p q hn, rank_max n p q hn]
    congr 1
    split <;> split <;> omega
  · intro A
    unfold clampV
    by_cases hc : narB n A = true ∨ narB n (minO n p q) = true ∨ narB n (maxO n p q) = true
    · rw [if_pos hc]; exact .inl ⟨rfl, rfl⟩
    · rw [if_neg hc]
      have hle : ¬ 0 < cmpR n (minO n p q) (maxO n p q) := by
        have m1 := rank_min n p q hn
        have m2 := rank_max n p q hn
        rcases cmpR_cases n (minO n p q) (maxO n p q) with ⟨a, b⟩ | ⟨a, b⟩ | ⟨a, b⟩ <;> omega
      rw [if_neg hle]
      refine .inr ⟨rfl, ?_, ?_⟩
      · show 0 ≤ cmpR n (minO n (maxO n A (minO n p q)) (maxO n p q)) (minO n p q)
        have m1 := rank_min n (maxO n A (minO n p q)) (maxO n p q) hn
        have m2 := rank_max n A (minO n p q) hn
        have m3 := rank_max n p q hn
        have m4 := rank_min n p q hn
        rcases cmpR_cases n (minO n (maxO n A (minO n p q)) (maxO n p q)) (minO n p q) with ⟨a, b⟩ | ⟨a, b⟩ | ⟨a, b⟩ <;> omega
      · show 0 ≤ cmpR n (maxO n p q) (minO n (maxO n A (minO n p q)) (maxO n p q))
        have m1 := rank_min n (maxO n A (minO n p q)) (maxO n p q) hn
        rcases cmpR_cases n (maxO n p q) (minO n (maxO n A (minO n p q)) (maxO n p q)) with ⟨a, b⟩ | ⟨a, b⟩ | ⟨a, b⟩ <;> omega
end Go.Proofs.Ytheliihkkoohnaa

namespace Go.Proofs.Ytheliihkkoohnaa
open Go.ChangeShapes Go.WideShapes Go.ChangeAt Go.RowKit
set_option linter.unusedVariables false
set_option linter.unusedSimpArgs false
set_option maxRecDepth 100000

/-! ### ties (plain mathematics) -/
theorem tieL_length (n q : Nat) (h1 : 1 ≤ n) (h2 : n ≤ 63) : (tieL n q).length = 63 := by
  unfold tieL; rw [List.length_append, bitsOf_length, List.length_cons, List.length_replicate]; omega
theorem tieL_true (n q : Nat) : true ∈ tieL n q := by unfold tieL; simp
theorem tieL_num (n q : Nat) (h1 : 1 ≤ n) (h2 : n ≤ 63) (hq : q < 2 ^ (n - 1)) : numOf (tieL n q) = q * 2 ^ (64 - n) + 2 ^ (63 - n) := by
  unfold tieL
  rw [numOf_append, numOf_bits, Nat.mod_eq_of_lt hq, numOf_cons, numOf_noughts, List.length_cons, List.length_replicate, show 63 - n + 1 = 64 - n by omega]
  simp
/-- the document's Cmp of two positive Reals -/
def cmpV (s : Int) (hi lo : Nat) (s' : Int) (hi' lo' : Nat) : Int := if s = s' ∧ hi = hi' ∧ lo = lo' then 0 else if s < s' ∨ (s = s' ∧ (hi < hi' ∨ (hi = hi' ∧ lo < lo'))) then -1 else 1
/-- two numbers on the line -/
theorem cmpV_zed {s s' : Int} {hi lo hi' lo' : Nat} (h : WordsX hi lo) (h' : WordsX hi' lo') (h1 : -316 ≤ s) (h2 : s < 312) (h3 : -316 ≤ s') (h4 : s' < 312) :
    (zed s (manX hi lo) < zed s' (manX hi' lo') → cmpV s hi lo s' hi' lo' < 0) ∧ (zed s (manX hi lo) = zed s' (manX hi' lo') → cmpV s hi lo s' hi' lo' = 0) ∧ (zed s' (manX hi' lo') < zed s (manX hi lo) → 0 < cmpV s hi lo s' hi' lo') := by
  have lx := @lexN hi lo hi' lo' h.lo64 h'.lo64
  have up := @zed_lt s s' (manX hi lo) (manX hi' lo') h.mant h'.mant h1 h4
  have dn := @zed_lt s' s (manX hi' lo') (manX hi lo) h'.mant h.mant h3 h2
  have meq : manX hi lo = manX hi' lo' → hi = hi' ∧ lo = lo' := fun e => by
    have a := h.lo64; have b := h'.lo64
    unfold manX at e; omega
  unfold cmpV
  by_cases e : s = s' ∧ hi = hi' ∧ lo = lo'
  · obtain ⟨rfl, rfl, rfl⟩ := e
    rw [if_pos ⟨rfl, rfl, rfl⟩]
    exact ⟨fun h => absurd h (Nat.lt_irrefl _), fun _ => rfl, fun h => absurd h (Nat.lt_irrefl _)⟩
  · rw [if_neg e]
    by_cases l : s < s' ∨ (s = s' ∧ (hi < hi' ∨ (hi = hi' ∧ lo < lo')))
    · rw [if_pos l]
      have := up (by rcases l with l | ⟨l1, l2⟩; exact .inl l; exact .inr ⟨l1, lx.1 l2⟩)
      exact ⟨fun _ => by decide, fun h => by omega, fun h => by omega⟩
    · rw [if_neg l]
      have := dn (by
        rcases Int.lt_trichotomy s s' with c | c | c
        · exact absurd (.inl c) l
        · refine .inr ⟨c.symm, ?_⟩
          rcases Nat.lt_trichotomy (manX hi lo) (manX hi' lo') with d | d | d
          · exact absurd (.inr ⟨c, lx.2 d⟩) l
          · exact absurd ⟨c, meq d⟩ e
          · exact d
        · exact .inl c)
      exact ⟨fun h => by omega, fun h => by omega, fun _ => by decide⟩
theorem ties_mid (n : Nat) (s : Int) (hi lo : Nat) (hn : Wd n) (h64 : n ≤ 63) (h : WordsX hi lo) (hm : midX n s (justX hi lo false)) (p : Nat) (hp : p = rndX n s hi lo false) :
    (p ≤ 2 ^ (n - 1) - 1 → cmpV s hi lo (scaleL (tieL n p)) (wordL (tieL n p)) 0 < 0 ∨ (cmpV s hi lo (scaleL (tieL n p)) (wordL (tieL n p)) 0 = 0 ∧ p % 2 = 0)) ∧
    (1 ≤ p → 0 < cmpV s hi lo (scaleL (tieL n (p - 1))) (wordL (tieL n (p - 1))) 0 ∨ (cmpV s hi lo (scaleL (tieL n (p - 1))) (wordL (tieL n (p - 1))) 0 = 0 ∧ p % 2 = 0)) := by
  have hw := wd_le hn
  have hsr : -316 ≤ s ∧ s < 312 := by
    obtain ⟨a, b, _⟩ := hm
    omega
  have hw1 : 1 ≤ n := by omega
  have tr : ∀ q, -316 ≤ scaleL (tieL n q) ∧ scaleL (tieL n q) < 312 := fun q => by
    have := scaleL_range (tieL n q) (by rw [tieL_length n q hw1 h64]; exact Nat.le_refl _)
    omega
  have pw : 2 ^ (n - 1) - 1 < 2 ^ (n - 1) := Nat.sub_lt (Nat.pow_pos (by decide)) (by decide)
  obtain ⟨e1, r1, r2⟩ := rnd_mid n s hi lo false hn h hm
  rw [← hp] at e1 r1 r2
  have hH : 0 < 2 ^ (210 - n) := Nat.pow_pos (by decide)
  have hz : zX s hi lo false = 2 * zed s (manX hi lo) := by unfold zX; rw [Bool.toNat_false, Nat.add_zero]
  obtain ⟨s1, s2⟩ := rhe_side (2 ^ (210 - n)) (zX s hi lo false) p hH e1.symm
  rw [hz] at s1 s2
  have hpl : p ≤ 2 ^ (n - 1) - 1 := r2
  have tz := fun q hq => tie_zed n q hw1 h64 hq
  clear hz e1 r2 hp hm
  generalize 2 ^ (210 - n) = H at *
  constructor
  · intro hle
    have ht := tz p (Nat.lt_of_le_of_lt hle pw)
    obtain ⟨c1, c2, c3⟩ := cmpV_zed h (words_of (tieL n p)) hsr.1 hsr.2 (tr p).1 (tr p).2
    have key : ∀ (A B H p : Nat), 2 * B = p * (2 * H) + H → (2 * A < p * (2 * H) + H → A < B) ∧ (2 * A = p * (2 * H) + H → A = B) := fun A B H p e => by
      generalize p * (2 * H) + H = x at *
      omega
    obtain ⟨q1, q2⟩ := key _ _ _ _ ht
    rcases s1 with s1 | ⟨s1, s3⟩
    · exact .inl (c1 (q1 s1))
    · exact .inr ⟨c2 (q2 s1), s3⟩
  · intro hge
    have ht := tz (p - 1) (Nat.lt_of_le_of_lt (Nat.le_trans (Nat.sub_le _ _) hpl) pw)
    obtain ⟨c1, c2, c3⟩ := cmpV_zed h (words_of (tieL n (p - 1))) hsr.1 hsr.2 (tr (p - 1)).1 (tr (p - 1)).2
    have key : ∀ (A B H p : Nat), 2 * B = p * (2 * H) + H → (p * (2 * H) + H < 2 * A → B < A) ∧ (p * (2 * H) + H = 2 * A → A = B) := fun A B H p e => by
      generalize p * (2 * H) + H = x at *
      omega
    obtain ⟨q1, q2⟩ := key _ _ _ _ ht
    rcases s2 hge with s2 | ⟨s2, s3⟩
    · exact .inl (c3 (q1 s2))
    · exact .inr ⟨c2 (q2 s2), s3⟩
theorem cmpV_scale (s : Int) (hi lo : Nat) (s' : Int) (hi' lo' : Nat) : (s < s' → cmpV s hi lo s' hi' lo' < 0) ∧ (s' < s → 0 < cmpV s hi lo s' hi' lo') := by
  unfold cmpV
  constructor
  · intro h
    rw [if_neg (by rintro ⟨e, _⟩; omega), if_pos (.inl h)]; decide
  · intro h
    rw [if_neg (by rintro ⟨e, _⟩; omega), if_neg (by rintro (e | ⟨e, _⟩) <;> omega)]; decide
/-- a number goes to the pattern on whose side of both ties it lies -/
theorem ties_all (n : Nat) (s : Int) (hi lo : Nat) (hn : n = 8 ∨ n = 16 ∨ n = 32) (h : WordsX hi lo) (p : Nat) (hp : p = rndX n s hi lo false) :
    (p = 2 ^ (n - 1) - 1 ∨ cmpV s hi lo (scaleL (tieL n p)) (wordL (tieL n p)) 0 < 0 ∨ (cmpV s hi lo (scaleL (tieL n p)) (wordL (tieL n p)) 0 = 0 ∧ p % 2 = 0)) ∧
    (p = 1 ∨ 0 < cmpV s hi lo (scaleL (tieL n (p - 1))) (wordL (tieL n (p - 1))) 0 ∨ (cmpV s hi lo (scaleL (tieL n (p - 1))) (wordL (tieL n (p - 1))) 0 = 0 ∧ p % 2 = 0)) := by
  have hw : Wd n := by rcases hn with h | h | h; exact .inl h; exact .inr (.inl h); exact .inr (.inr (.inl h))
  have h63 : n ≤ 63 := by omega
  obtain ⟨r1, r2⟩ := rnd_range n s hi lo false hw h
  rw [← hp] at r1 r2
  rcases mid_or n s (justX hi lo false) with hm | hm | ⟨hm0, hm⟩
  · obtain ⟨a, b⟩ := ties_mid n s hi lo hw h63 h hm p hp
    exact ⟨.inr (a r2), .inr (b r1)⟩
  · have e := rnd_top n s hi lo false hm
    rw [← hp] at e
    refine ⟨.inl e, .inr (.inl ((cmpV_scale s hi lo _ _ _).2 ?_))⟩
    rw [e]
    rcases hn with rfl | rfl | rfl
    · rw [show scaleL (tieL 8 (2 ^ (8 - 1) - 1 - 1)) = 22 by decide +kernel]; omega
    · rw [show scaleL (tieL 16 (2 ^ (16 - 1) - 1 - 1)) = 54 by decide +kernel]; omega
    · rw [show scaleL (tieL 32 (2 ^ (32 - 1) - 1 - 1)) = 118 by decide +kernel]; omega
  · have e := rnd_low n s hi lo false hm0 hm
    rw [← hp] at e
    refine ⟨.inr (.inl ((cmpV_scale s hi lo _ _ _).1 ?_)), .inl e⟩
    rw [e]
    rcases hn with rfl | rfl | rfl
    · rw [show scaleL (tieL 8 1) = -22 by decide +kernel]; rcases hm with hm | hm <;> omega
    · rw [show scaleL (tieL 16 1) = -54 by decide +kernel]; rcases hm with hm | hm <;> omega
    · rw [show scaleL (tieL 32 1) = -118 by decide +kernel]; rcases hm with hm | hm <;> omega
/-- the tie as a pattern of the width 64 -/
theorem cdecode_tie (n q : Nat) (h1 : 1 ≤ n) (h2 : n ≤ 63) (hq : q < 2 ^ (n - 1)) (T : Nat) (hT : T = q * 2 ^ (64 - n) + 2 ^ (63 - n)) (w : World) :
    Calls Try.prog 27 #[.int .i64 64, .int .u64 T] w fun e w' => e = .returned (.tuple #[numV 1 false (scaleL (tieL n q)) (wordL (tieL n q)), .nilIface]) ∧ Below w.heap.size w w' := by
  have hl := tieL_length n q h1 h2
  have ht := tieL_true n q
  obtain ⟨p1, p2, p3, p4⟩ := patOf_facts 64 (.inr (.inr (.inr rfl))) false (tieL n q) (by rw [hl]) ht
  have e : patOf 64 false (tieL n q) = T := by rw [hT, ← tieL_num n q h1 h2 hq]; rfl
  rw [e] at p1 p2 p3 p4
  have := cdecode_real 64 T (.inr (.inr (.inr rfl))) p1 p2 w
  rw [p3, p4] at this
  exact this
end Go.Proofs.Ytheliihkkoohnaa

namespace Go.Proofs.Ytheliihkkoohnaa
open Go.ChangeShapes Go.WideShapes Go.ChangeAt Go.RowKit
set_option linter.unusedVariables false
set_option linter.unusedSimpArgs false
set_option maxRecDepth 100000

/-! ### the order of ranks is the order of values -/
theorem rank_real (n x : Nat) (hn : Wd n) (hx : x < 2 ^ 64) (hk : kindOf n (x % 2 ^ n) = 1) :
    extOf x n = (if x.testBit (n - 1) then -(numOf (strS n x) : Int) else (numOf (strS n x) : Int)) ∧ 1 ≤ numOf (strS n x) ∧ numOf (strS n x) ≤ 2 ^ (n - 1) - 1 := by
  obtain ⟨ht, hp⟩ := patOf_str n x hn hx hk
  have hl := strS_length n x
  have h1 := numOf_pos _ ht
  have h2 := numOf_lt (strS n x)
  rw [hl] at h2
  have h3 : numOf (strS n x) ≤ 2 ^ (n - 1) - 1 := by omega
  refine ⟨?_, h1, h3⟩
  rw [← rank_mod n x hn, ← hp]
  exact extOf_patR n hn _ _ h1 h3
theorem rank_zero (n x : Nat) (hn : Wd n) (hk : x % 2 ^ n = 0) : extOf x n = 0 := by rw [← rank_mod n x hn, hk, extOf_nought]
def vK (n x : Nat) : Int := kindOf n (x % 2 ^ n)
def vB (n x : Nat) : Bool := if kindOf n (x % 2 ^ n) = 1 then x.testBit (n - 1) else false
def vS (n x : Nat) : Int := if kindOf n (x % 2 ^ n) = 1 then scaleL (strS n x) else 0
def vF (n x : Nat) : Nat := if kindOf n (x % 2 ^ n) = 1 then wordL (strS n x) else 0
theorem sound_v (n x : Nat) (hn : Wd n) (hx : x < 2 ^ 64) : soundN (vK n x) (vB n x) (vS n x) (vF n x) = true := by
  unfold vK vB vS vF
  by_cases hk : kindOf n (x % 2 ^ n) = 1
  · rw [if_pos hk, if_pos hk, if_pos hk, hk]
    exact sound_home n _ _ hn (strS_length n x) (patOf_str n x hn hx hk).1
  · rw [if_neg hk, if_neg hk, if_neg hk]
    rcases kind_cases n _ hk with ⟨h, _⟩ | ⟨h, _⟩ <;> rw [h] <;> rfl
theorem narB_kind (n x : Nat) (hn : Wd n) : narB n x = decide (vK n x = 2) := by
  obtain ⟨H, h1, h2, h3, _⟩ := wd_pows hn
  unfold narB vK kindOf
  rw [h2]
  by_cases h : x % 2 ^ n = 0
  · rw [if_pos h, h, decide_eq_false (by omega)]; rfl
  · rw [if_neg h]
    by_cases h4 : x % 2 ^ n = H
    · rw [if_pos h4, decide_eq_true h4]; rfl
    · rw [if_neg h4, decide_eq_false h4]; rfl
/-- strings of one width: their numbers' order -/
theorem cmpV_rank' (n a b : Nat) (hn : Wd n) (ha : a < 2 ^ 64) (hb : b < 2 ^ 64) (ka : kindOf n (a % 2 ^ n) = 1) (kb : kindOf n (b % 2 ^ n) = 1) :
    (cmpV (scaleL (strS n a)) (wordL (strS n a)) 0 (scaleL (strS n b)) (wordL (strS n b)) 0 = -1 ∧ numOf (strS n a) < numOf (strS n b)) ∨
    (cmpV (scaleL (strS n a)) (wordL (strS n a)) 0 (scaleL (strS n b)) (wordL (strS n b)) 0 = 1 ∧ numOf (strS n b) < numOf (strS n a)) ∨
    (cmpV (scaleL (strS n a)) (wordL (strS n a)) 0 (scaleL (strS n b)) (wordL (strS n b)) 0 = 0 ∧ numOf (strS n a) = numOf (strS n b)) := by
  have hw := wd_le hn
  have ta := (patOf_str n a hn ha ka).1
  have tb := (patOf_str n b hn hb kb).1
  have la := strS_length n a
  have lb := strS_length n b
  have la63 : (strS n a).length ≤ 63 := by omega
  have lb63 : (strS n b).length ≤ 63 := by omega
  have ra := scaleL_range _ la63
  have rb := scaleL_range _ lb63
  have za := zed_parse _ ta la63
  have zb := zed_parse _ tb lb63
  rw [la] at za
  rw [lb] at zb
  obtain ⟨c1, c2, c3⟩ := cmpV_zed (s := scaleL (strS n a)) (s' := scaleL (strS n b)) (words_of (strS n a)) (words_of (strS n b)) (by omega) (by omega) (by omega) (by omega)
  rw [za, zb] at c1 c2 c3
  have hp : 0 < 2 ^ (209 - (n - 1)) := Nat.pow_pos (by decide)
  have tri : cmpV (scaleL (strS n a)) (wordL (strS n a)) 0 (scaleL (strS n b)) (wordL (strS n b)) 0 = 0 ∨ cmpV (scaleL (strS n a)) (wordL (strS n a)) 0 (scaleL (strS n b)) (wordL (strS n b)) 0 = -1 ∨ cmpV (scaleL (strS n a)) (wordL (strS n a)) 0 (scaleL (strS n b)) (wordL (strS n b)) 0 = 1 := by
    unfold cmpV
    split
    · exact .inl rfl
    · split
      · exact .inr (.inl rfl)
      · exact .inr (.inr rfl)
  generalize cmpV (scaleL (strS n a)) (wordL (strS n a)) 0 (scaleL (strS n b)) (wordL (strS n b)) 0 = v at *
  generalize 2 ^ (209 - (n - 1)) = Z at *
  rcases Nat.lt_trichotomy (numOf (strS n a)) (numOf (strS n b)) with h | h | h
  · have := c1 (Nat.mul_lt_mul_of_pos_right h hp)
    exact .inl ⟨by omega, h⟩
  · have := c2 (by rw [h])
    exact .inr (.inr ⟨this, h⟩)
  · have := c3 (Nat.mul_lt_mul_of_pos_right h hp)
    exact .inr (.inl ⟨by omega, h⟩)
end Go.Proofs.Ytheliihkkoohnaa

namespace Go.Proofs.Ytheliihkkoohnaa
set_option maxRecDepth 100000
set_option linter.unusedVariables false
set_option linter.unusedSimpArgs false

/-! ### what patterns mean, as whole numbers times 2^(-375) (plain mathematics) -/
def eN : Int := -375
def valI (n x : Nat) : Int := if vK n x = 1 then sg (vB n x) (manX (vF n x) 0) * ((2 ^ (vS n x + 248).toNat : Nat) : Int) else 0
theorem v_real (n x : Nat) (hn : Wd n) (hx : x < 2 ^ 64) (hk : vK n x = 1) : vB n x = x.testBit (n - 1) ∧ vS n x = scaleL (strS n x) ∧ vF n x = wordL (strS n x) ∧ true ∈ strS n x ∧ (strS n x).length = n - 1 ∧ kindOf n (x % 2 ^ n) = 1 ∧ WordsX (vF n x) 0 ∧ 8 - 4 * (n : Int) ≤ vS n x ∧ vS n x ≤ 4 * n - 8 := by
  have hk' : kindOf n (x % 2 ^ n) = 1 := hk
  obtain ⟨ht, hp⟩ := patOf_str n x hn hx hk'
  have e1 : vB n x = x.testBit (n - 1) := by unfold vB; rw [if_pos hk']
  have e2 : vS n x = scaleL (strS n x) := by unfold vS; rw [if_pos hk']
  have e3 : vF n x = wordL (strS n x) := by unfold vF; rw [if_pos hk']
  refine ⟨e1, e2, e3, ht, strS_length n x, hk', by rw [e3]; exact words_of _, ?_⟩
  rw [e2]
  have := of_decide_eq_true (inR_of n _ hn (strS_length n x) ht)
  exact ⟨by omega, by omega⟩
theorem v_kinds (n x : Nat) (hn : Wd n) : vK n x = 0 ∧ x % 2 ^ n = 0 ∨ vK n x = 1 ∨ vK n x = 2 ∧ x % 2 ^ n = 2 ^ (n - 1) := by
  by_cases hk : kindOf n (x % 2 ^ n) = 1
  · exact .inr (.inl hk)
  · rcases kind_cases n _ hk with ⟨h, h2⟩ | ⟨h, h2⟩
    · exact .inl ⟨h, h2⟩
    · exact .inr (.inr ⟨h, h2⟩)
/-- a real's value, ahead of its rounding -/
theorem val_real (n x : Nat) (hn : Wd n) (hx : x < 2 ^ 64) (hk : vK n x = 1) : exI (valI n x) eN = exV 1 (vB n x) (vS n x) (vF n x) 0 false := by
  obtain ⟨_, _, _, _, _, _, hwd, h1, h2⟩ := v_real n x hn hx hk
  have hw := wd_le hn
  unfold valI
  rw [if_pos hk]
  have e := exI_real (vB n x) (vS n x) (vF n x) 0 hwd (by omega) (-248) (vS n x + 248).toNat (by omega)
  rw [show (-248 : Int) - 127 = eN from rfl] at e
  exact e
theorem val_zero (n x : Nat) (hk : vK n x ≠ 1) : valI n x = 0 := by unfold valI; rw [if_neg hk]
theorem sg_abs (neg : Bool) (N : Nat) : (sg neg N).natAbs = N := by unfold sg; cases neg <;> simp
theorem blen_add {N N' k : Nat} (h : blen N ≤ k) (h' : blen N' ≤ k) : blen (N + N') ≤ k + 1 := by
  have a := blen_le.1 h
  have b := blen_le.1 h'
  exact blen_le.2 (by rw [Nat.pow_succ]; omega)
theorem val_blen (n x : Nat) (hn : Wd n) (hx : x < 2 ^ 64) : blen (valI n x).natAbs ≤ 624 := by
  by_cases hk : vK n x = 1
  · obtain ⟨_, _, _, _, _, _, hwd, h1, h2⟩ := v_real n x hn hx hk
    have hw := wd_le hn
    unfold valI
    rw [if_pos hk, Int.natAbs_mul, sg_abs, Int.natAbs_natCast]
    have hm : (vS n x + 248).toNat ≤ 496 := by omega
    generalize (vS n x + 248).toNat = m at *
    have : blen (manX (vF n x) 0 * 2 ^ m) ≤ 128 + m := blen_le.2 (by rw [Nat.pow_add]; exact Nat.mul_lt_mul_of_pos_right hwd.mant.2 (Nat.pow_pos (by decide)))
    omega
  · rw [val_zero n x hk]
    show blen 0 ≤ 624
    rw [blen_zero]; omega
theorem near_of {N : Nat} {e : Int} (h : blen N ≤ 10000) (he : -100000 ≤ e ∧ e ≤ 100000) : Near N e := ⟨by omega, by omega⟩
theorem abs_add (T T' : Int) {k : Nat} (h : blen T.natAbs ≤ k) (h' : blen T'.natAbs ≤ k) : blen (T + T').natAbs ≤ k + 1 :=
  Nat.le_trans (blen_mono (show (T + T').natAbs ≤ T.natAbs + T'.natAbs by omega)) (blen_add h h')
theorem val_inj {k k' : Int} {neg neg' : Bool} {s s' : Int} {hi lo hi' lo' : Nat} {r r' : Bool} (h : exV k neg s hi lo r = exV k' neg' s' hi' lo' r') : neg = neg' ∧ s = s' ∧ hi = hi' ∧ lo = lo' ∧ r = r' := by
  unfold exV at h
  simp only [Value.agg.injEq, Array.mk.injEq, List.cons.injEq, Value.int.injEq, Value.bool.injEq, true_and, and_true] at h
  obtain ⟨_, h1, h2, h3, h4, h5⟩ := h
  exact ⟨h1, h2, by omega, by omega, h5⟩
/-- the magnitude that is rounded, from the number ahead of its rounding -/
theorem patI_of {n : Nat} {T e : Int} {neg : Bool} {s : Int} {hi lo : Nat} {r : Bool} (h0 : T ≠ 0) (h : exI T e = exV 1 neg s hi lo r) : patI n T e = patR n neg (rndX n s hi lo r) := by
  unfold exI exactV at h
  rw [if_neg (by omega)] at h
  obtain ⟨h1, h2, h3, h4, h5⟩ := val_inj h
  unfold patI mgI
  rw [if_neg h0, h1, h2, h3, h4, h5]
theorem patR_of (n : Nat) (neg : Bool) (t : List Bool) : patR n neg (numOf t) = patOf n neg t := rfl
/-- what a pattern means is rounded to it -/
theorem patI_own (n x : Nat) (hn : Wd n) (hx : x < 2 ^ 64) (hk : vK n x ≠ 2) : patI n (valI n x) eN = x % 2 ^ n := by
  rcases v_kinds n x hn with ⟨h, hz⟩ | h | ⟨h, _⟩
  · rw [val_zero n x (by rw [h]; decide), hz]; rfl
  · obtain ⟨e1, e2, e3, ht, hl, hk', hwd, _⟩ := v_real n x hn hx h
    have h0 : valI n x ≠ 0 := fun c => by
      have a := val_real n x hn hx h
      rw [c] at a
      have b : exI 0 eN = exV 0 false 0 0 0 false := exactV_zero _ _ _
      rw [b] at a
      obtain ⟨_, _, c3, _⟩ := val_inj a
      have := hwd.top
      omega
    rw [patI_of h0 (val_real n x hn hx h), e2, e3, rnd_home n _ hn hl ht, patR_of, e1]
    exact (patOf_str n x hn hx hk').2
  · exact absurd h hk
/-- the negative pattern means the negative number -/
theorem val_neg (n x y : Nat) (hn : Wd n) (hx : x < 2 ^ 64) (hy : y < 2 ^ 64) (h : y % 2 ^ n = (2 ^ n - x % 2 ^ n) % 2 ^ n) : vK n y = vK n x ∧ valI n y = -valI n x ∧ (vK n x = 1 → vB n y = !vB n x) ∧ vS n y = vS n x ∧ vF n y = vF n x := by
  obtain ⟨H, p1, p2, p3, _⟩ := wd_pows hn
  have hm := Nat.mod_lt x (show 0 < 2 ^ n by omega)
  have hw := wd_le hn
  have hkk : vK n y = vK n x := by
    unfold vK kindOf
    rw [h, p2]
    by_cases c0 : x % 2 ^ n = 0
    · rw [c0, Nat.sub_zero, Nat.mod_self, if_pos rfl]
    · rw [Nat.mod_eq_of_lt (by omega), if_neg c0, if_neg (by omega)]
      by_cases c1 : x % 2 ^ n = H
      · rw [if_pos c1, if_pos (by omega)]
      · rw [if_neg c1, if_neg (by omega)]
  by_cases hk : vK n x = 1
  · have hk2 : vK n y = 1 := by rw [hkk, hk]
    obtain ⟨a1, a2, a3, at_, al, ak, _⟩ := v_real n x hn hx hk
    obtain ⟨b1, b2, b3, bt, bl, bk, _⟩ := v_real n y hn hy hk2
    have hne : x % 2 ^ n ≠ 0 ∧ x % 2 ^ n ≠ H := by
      unfold kindOf at ak
      constructor
      · intro c; rw [if_pos c] at ak; exact absurd ak (by decide)
      · intro c; rw [if_neg (by omega), p2, if_pos c] at ak; exact absurd ak (by decide)
    have hy2 : y % 2 ^ n = 2 ^ n - x % 2 ^ n := by rw [h, Nat.mod_eq_of_lt (by omega)]
    have tx := top_of n (x % 2 ^ n) hn hm
    have ty := top_of n (y % 2 ^ n) hn (Nat.mod_lt _ (by omega))
    rw [← testBit_low x n (by omega), p2] at tx
    rw [← testBit_low y n (by omega), p2, hy2] at ty
    have hs : strS n y = strS n x := by
      refine numOf_inj (by rw [al, bl]) ?_
      rw [strS_num n y hn hy, strS_num n x hn hx, tx, ty, hy2]
      by_cases c : H ≤ x % 2 ^ n
      · rw [decide_eq_true c, decide_eq_false (show ¬ H ≤ 2 ^ n - x % 2 ^ n by omega)]; rfl
      · rw [decide_eq_false c, decide_eq_true (show H ≤ 2 ^ n - x % 2 ^ n by omega)]
        simp only [Bool.false_eq_true, if_false, if_true]
        congr 1
        omega
    have hB : vB n y = !vB n x := by
      rw [a1, b1, tx, ty]
      by_cases c : H ≤ x % 2 ^ n
      · rw [decide_eq_true c, decide_eq_false (by omega)]; rfl
      · rw [decide_eq_false c, decide_eq_true (by omega)]; rfl
    have hS : vS n y = vS n x := by rw [a2, b2, hs]
    have hF : vF n y = vF n x := by rw [a3, b3, hs]
    refine ⟨hkk, ?_, fun _ => hB, hS, hF⟩
    unfold valI
    rw [if_pos hk, if_pos hk2, hB, hS, hF, ← Int.neg_mul]
    congr 1
    unfold sg
    cases vB n x <;> simp
  · have hk2 : vK n y ≠ 1 := by rw [hkk]; exact hk
    have ak : ¬ kindOf n (x % 2 ^ n) = 1 := hk
    have bk : ¬ kindOf n (y % 2 ^ n) = 1 := hk2
    refine ⟨hkk, by rw [val_zero n x hk, val_zero n y hk2]; rfl, fun c => absurd c hk, ?_, ?_⟩
    · unfold vS; rw [if_neg ak, if_neg bk]
    · unfold vF; rw [if_neg ak, if_neg bk]
end Go.Proofs.Ytheliihkkoohnaa

namespace Go.Proofs.Ytheliihkkoohnaa
open Go.ChangeShapes Go.WideShapes Go.ChangeAt Go.RowKit
set_option linter.unusedVariables false
set_option linter.unusedSimpArgs false
set_option maxRecDepth 100000

/-! ### values and ranks (plain mathematics) -/
theorem rank_inj (n x y : Nat) (hn : Wd n) (h : extOf x n = extOf y n) : x % 2 ^ n = y % 2 ^ n := by
  obtain ⟨H, p1, p2, p3, _⟩ := wd_pows hn
  rw [extOf_val n x hn, extOf_val n y hn] at h
  have a := Nat.mod_lt x (show 0 < 2 ^ n by omega)
  have b := Nat.mod_lt y (show 0 < 2 ^ n by omega)
  rw [p2] at h
  split at h <;> split at h <;> omega
theorem val_mod (n x y : Nat) (hn : Wd n) (hx : x < 2 ^ 64) (hy : y < 2 ^ 64) (h : x % 2 ^ n = y % 2 ^ n) : valI n x = valI n y := by
  have e : minusU x % 2 ^ n = (2 ^ n - x % 2 ^ n) % 2 ^ n := minusU_mod n x hn hx
  have a := (val_neg n x (minusU x) hn hx (minusU_lt x) e).2.1
  have b := (val_neg n y (minusU x) hn hy (minusU_lt x) (by rw [e, h])).2.1
  omega
theorem val_rank (n x : Nat) (hn : Wd n) (hx : x < 2 ^ 64) (hk : vK n x ≠ 2) : extOf x n = rkI n (valI n x) eN := by
  rw [← patI_rank _ _ hn, patI_own n x hn hx hk, rank_mod n x hn]
theorem val_near (n x : Nat) (hn : Wd n) (hx : x < 2 ^ 64) : Near (valI n x).natAbs eN := near_of (by have := val_blen n x hn hx; omega) (by decide)
/-- the order of ranks is the order of values -/
theorem val_le (n x y : Nat) (hn : Wd n) (hx : x < 2 ^ 64) (hy : y < 2 ^ 64) (kx : vK n x ≠ 2) (ky : vK n y ≠ 2) (h : extOf x n ≤ extOf y n) : valI n x ≤ valI n y := by
  refine Int.not_lt.1 fun c => ?_
  have a := rkI_mono hn (Int.le_of_lt c) (val_near n y hn hy) (val_near n x hn hx)
  rw [← val_rank n x hn hx kx, ← val_rank n y hn hy ky] at a
  have e := val_mod n x y hn hx hy (rank_inj n x y hn (by omega))
  omega
/-! ### numbers ahead of their rounding -/
theorem exI_cases (T e : Int) : (T = 0 ∧ exI T e = exV 0 false 0 0 0 false) ∨ (T ≠ 0 ∧ ∃ neg s hi lo r, exI T e = exV 1 neg s hi lo r ∧ WordsX hi lo ∧ soundX 1 neg s hi lo r = true) := by
  by_cases h : T = 0
  · subst h; exact .inl ⟨rfl, exactV_zero _ _ _⟩
  · refine .inr ⟨h, ?_⟩
    have h0 : T.natAbs ≠ 0 := by omega
    have hwd := normN_words h0
    have hb := heldX_bounds (e + blen T.natAbs - 1)
    refine ⟨decide (T < 0), heldX (e + blen T.natAbs - 1), normN T.natAbs / 2 ^ 64 % 2 ^ 64, normN T.natAbs % 2 ^ 64, (false || lostN T.natAbs), by unfold exI exactV; rw [if_neg h0], hwd, ?_⟩
    unfold soundX
    rw [if_neg (by decide)]
    exact decide_eq_true ⟨rfl, hwd.top, hb.1, hb.2⟩
theorem rround_exI (n : Nat) (T e : Int) (hn : Wd n) (w : World) :
    Calls Try.prog 21 #[.int .i64 n, exI T e] w fun r w' => r = .returned (.tuple #[.int .u64 (patI n T e : Nat), .nilIface]) ∧ Below w.heap.size w w' := by
  rcases exI_cases T e with ⟨h, h2⟩ | ⟨h, neg, s, hi, lo, r, h2, hwd, hs⟩
  · rw [h2]
    have : patI n T e = 0 := by unfold patI; rw [if_pos h]
    rw [this]
    exact rround_zero n hn w
  · rw [h2, patI_of h h2]
    exact rround_real n neg s hi lo r hn hs hwd w
theorem exI_form (T e : Int) : ∃ k b s h l r, exI T e = exV k b s h l r := exactV_form _ _ _ _
/-! ### the document's Sum of any two -/
def sum9 (k : Int) (neg : Bool) (s : Int) (hi lo : Nat) (k' : Int) (neg' : Bool) (s' : Int) (hi' lo' : Nat) : Value :=
  if k = 2 ∨ k' = 2 then exV 2 false 0 0 0 false
  else if k = 0 then exV k' neg' s' hi' lo' false
  else if k' = 0 then exV k neg s hi lo false
  else sumR neg s (manX hi lo) neg' s' (manX hi' lo')
theorem v_other (n x : Nat) (h : vK n x ≠ 1) : vB n x = false ∧ vS n x = 0 ∧ vF n x = 0 := by
  have h2 : ¬ kindOf n (x % 2 ^ n) = 1 := h
  refine ⟨?_, ?_, ?_⟩
  · unfold vB; rw [if_neg h2]
  · unfold vS; rw [if_neg h2]
  · unfold vF; rw [if_neg h2]
/-- a pattern's value, as it is ahead of its rounding -/
theorem val_exV (n x : Nat) (hn : Wd n) (hx : x < 2 ^ 64) (hk : vK n x ≠ 2) : exV (vK n x) (vB n x) (vS n x) (vF n x) 0 false = exI (valI n x) eN := by
  rcases v_kinds n x hn with ⟨h, _⟩ | h | ⟨h, _⟩
  · obtain ⟨a, b, c⟩ := v_other n x (by rw [h]; decide)
    rw [h, a, b, c, val_zero n x (by rw [h]; decide)]
    exact (exactV_zero _ _ _).symm
  · rw [val_real n x hn hx h, h]
  · exact absurd h hk
theorem sum9_val (n a b : Nat) (hn : Wd n) (ha : a < 2 ^ 64) (hb : b < 2 ^ 64) :
    sum9 (vK n a) (vB n a) (vS n a) (vF n a) 0 (vK n b) (vB n b) (vS n b) (vF n b) 0 = if vK n a = 2 ∨ vK n b = 2 then exV 2 false 0 0 0 false else exI (valI n a + valI n b) eN := by
  unfold sum9
  by_cases h2 : vK n a = 2 ∨ vK n b = 2
  · rw [if_pos h2, if_pos h2]
  · rw [if_neg h2, if_neg h2]
    have na : vK n a ≠ 2 := fun c => h2 (.inl c)
    have nb : vK n b ≠ 2 := fun c => h2 (.inr c)
    by_cases a0 : vK n a = 0
    · rw [if_pos a0, val_exV n b hn hb nb, val_zero n a (by rw [a0]; decide), Int.zero_add]
    · rw [if_neg a0]
      by_cases b0 : vK n b = 0
      · rw [if_pos b0, val_exV n a hn ha na, val_zero n b (by rw [b0]; decide), Int.add_zero]
      · rw [if_neg b0]
        have a1 : vK n a = 1 := by rcases v_kinds n a hn with ⟨h, _⟩ | h | ⟨h, _⟩; exact absurd h a0; exact h; exact absurd h na
        have b1 : vK n b = 1 := by rcases v_kinds n b hn with ⟨h, _⟩ | h | ⟨h, _⟩; exact absurd h b0; exact h; exact absurd h nb
        obtain ⟨_, _, _, _, _, _, wa, sa1, sa2⟩ := v_real n a hn ha a1
        obtain ⟨_, _, _, _, _, _, wb, sb1, sb2⟩ := v_real n b hn hb b1
        have hw := wd_le hn
        have e := sumR_int (vB n a) (vS n a) (manX (vF n a) 0) (vB n b) (vS n b) (manX (vF n b) 0) wa.mant wb.mant (-248) (vS n a + 248).toNat (vS n b + 248).toNat (by omega) (by omega)
        rw [show (-248 : Int) - 127 = eN from rfl] at e
        unfold valI
        rw [if_pos a1, if_pos b1]
        exact e
/-- the pattern of a sum -/
def patS (n a b : Nat) : Nat := if vK n a = 2 ∨ vK n b = 2 then 2 ^ (n - 1) else patI n (valI n a + valI n b) eN
end Go.Proofs.Ytheliihkkoohnaa

namespace Go.Proofs.Ytheliihkkoohnaa
set_option maxRecDepth 100000
set_option linter.unusedVariables false
set_option linter.unusedSimpArgs false

/-! ### sums of patterns: what follows (plain mathematics) -/
theorem negO_eq (n x : Nat) (hn : Wd n) (hx : x < 2 ^ 64) : negO n x = (2 ^ n - x % 2 ^ n) % 2 ^ n := minusU_mod n x hn hx
theorem lt64_of {n y : Nat} (hn : Wd n) (h : y < 2 ^ n) : y < 2 ^ 64 := Nat.lt_of_lt_of_le h (Nat.pow_le_pow_right (by decide) (wd_le hn).2)
theorem negO_lt (n x : Nat) (hn : Wd n) : negO n x < 2 ^ n := Nat.mod_lt _ (Nat.pow_pos (by decide))
theorem negO_lt64 (n x : Nat) (hn : Wd n) : negO n x < 2 ^ 64 := lt64_of hn (negO_lt n x hn)
theorem val_negO (n x : Nat) (hn : Wd n) (hx : x < 2 ^ 64) : vK n (negO n x) = vK n x ∧ valI n (negO n x) = -valI n x := by
  have h := negO_eq n x hn hx
  have a := val_neg n x (negO n x) hn hx (negO_lt64 n x hn) (by rw [Nat.mod_eq_of_lt (negO_lt n x hn), h])
  exact ⟨a.1, a.2.1⟩
theorem val_minus (n x : Nat) (hn : Wd n) (hx : x < 2 ^ 64) : vK n (minusU x) = vK n x ∧ valI n (minusU x) = -valI n x := by
  have a := val_neg n x (minusU x) hn hx (minusU_lt x) (minusU_mod n x hn hx)
  exact ⟨a.1, a.2.1⟩
theorem vK_zero (n : Nat) : vK n 0 = 0 := by unfold vK kindOf; rw [Nat.zero_mod, if_pos rfl]
theorem patS_lt (n a b : Nat) (hn : Wd n) : patS n a b < 2 ^ n := by
  obtain ⟨H, p1, p2, p3, _⟩ := wd_pows hn
  unfold patS
  split
  · omega
  · exact (patI_lt _ _ hn).1
theorem patS_comm (n a b : Nat) : patS n a b = patS n b a := by
  unfold patS
  rw [Int.add_comm]
  by_cases h : vK n a = 2 ∨ vK n b = 2
  · rw [if_pos h, if_pos h.symm]
  · rw [if_neg h, if_neg (fun c => h c.symm)]
theorem patS_nar (n a b : Nat) (h : vK n a = 2 ∨ vK n b = 2) : patS n a b = 2 ^ (n - 1) := by unfold patS; rw [if_pos h]
theorem patS_zero (n a : Nat) (hn : Wd n) (ha : a < 2 ^ 64) (h : vK n a ≠ 2) : patS n a 0 = a % 2 ^ n := by
  unfold patS
  rw [if_neg (by rw [vK_zero]; rintro (c | c); exact h c; exact absurd c (by decide)), val_zero n 0 (by rw [vK_zero]; decide), Int.add_zero]
  exact patI_own n a hn ha h
theorem patS_self (n a : Nat) (hn : Wd n) (ha : a < 2 ^ 64) (h : vK n a ≠ 2) : patS n a (negO n a) = 0 := by
  obtain ⟨k, v⟩ := val_negO n a hn ha
  unfold patS
  rw [if_neg (by rw [k]; rintro (c | c) <;> exact h c), v, show valI n a + -valI n a = 0 by omega]
  rfl
theorem negO_nar (n : Nat) (hn : Wd n) : negO n (2 ^ (n - 1)) = 2 ^ (n - 1) := by
  obtain ⟨H, p1, p2, p3, _⟩ := wd_pows hn
  rw [negO_eq n _ hn (lt64_of hn (by omega)), p1, p2, Nat.mod_eq_of_lt (a := H) (by omega), Nat.mod_eq_of_lt (by omega)]
  omega
theorem patS_minus (n a b : Nat) (hn : Wd n) (ha : a < 2 ^ 64) (hb : b < 2 ^ 64) : patS n (minusU a) (minusU b) = negO n (patS n a b) := by
  obtain ⟨ka, va⟩ := val_minus n a hn ha
  obtain ⟨kb, vb⟩ := val_minus n b hn hb
  unfold patS
  rw [ka, kb]
  by_cases h : vK n a = 2 ∨ vK n b = 2
  · rw [if_pos h, if_pos h, negO_nar n hn]
  · rw [if_neg h, if_neg h, va, vb, show -valI n a + -valI n b = -(valI n a + valI n b) by omega, patI_neg _ _ hn, negO_eq n _ hn (lt64_of hn (patI_lt _ _ hn).1), Nat.mod_eq_of_lt (a := patI n (valI n a + valI n b) eN) (patI_lt _ _ hn).1]
theorem patS_swap (n a b : Nat) (hn : Wd n) (ha : a < 2 ^ 64) (hb : b < 2 ^ 64) : patS n b (negO n a) = negO n (patS n a (negO n b)) := by
  obtain ⟨ka, va⟩ := val_negO n a hn ha
  obtain ⟨kb, vb⟩ := val_negO n b hn hb
  unfold patS
  rw [ka, kb]
  by_cases h : vK n a = 2 ∨ vK n b = 2
  · rw [if_pos h, if_pos h.symm, negO_nar n hn]
  · rw [if_neg h, if_neg (fun c => h c.symm), va, vb, show valI n b + -valI n a = -(valI n a + -valI n b) by omega, patI_neg _ _ hn, negO_eq n _ hn (lt64_of hn (patI_lt _ _ hn).1), Nat.mod_eq_of_lt (a := patI n (valI n a + -valI n b) eN) (patI_lt _ _ hn).1]
/-- the sum with a greater one is no less -/
theorem patS_rise (n a b c : Nat) (hn : Wd n) (ha : a < 2 ^ 64) (hb : b < 2 ^ 64) (hc : c < 2 ^ 64) (ka : vK n a ≠ 2) (kb : vK n b ≠ 2) (kc : vK n c ≠ 2) (h : extOf b n ≤ extOf c n) : extOf (patS n a b) n ≤ extOf (patS n a c) n := by
  have hv := val_le n b c hn hb hc kb kc h
  unfold patS
  rw [if_neg (by rintro (x | x); exact ka x; exact kb x), if_neg (by rintro (x | x); exact ka x; exact kc x), patI_rank _ _ hn, patI_rank _ _ hn]
  have na := val_blen n a hn ha
  have nb := val_blen n b hn hb
  have nc := val_blen n c hn hc
  have e1 := abs_add _ _ na nb
  have e2 := abs_add _ _ na nc
  exact rkI_mono hn (by omega) (near_of (by omega) (by decide)) (near_of (by omega) (by decide))
theorem patS_ways (n a b c : Nat) (hn : Wd n) (ha : a < 2 ^ 64) (hb : b < 2 ^ 64) (hc : c < 2 ^ 64) (ka : vK n a ≠ 2) (kb : vK n b ≠ 2) (kc : vK n c ≠ 2) :
    (0 < cmpR n b c ∨ cmpR n (patS n a b) (patS n a c) ≤ 0) ∧ (cmpR n b c < 0 ∨ 0 ≤ cmpR n (patS n a b) (patS n a c)) := by
  rcases cmpR_cases n b c with ⟨x, y⟩ | ⟨x, y⟩ | ⟨x, y⟩
  · have := patS_rise n a b c hn ha hb hc ka kb kc (by omega)
    rcases cmpR_cases n (patS n a b) (patS n a c) with ⟨u, v⟩ | ⟨u, v⟩ | ⟨u, v⟩ <;> omega
  · have := patS_rise n a c b hn ha hc hb ka kc kb (by omega)
    rcases cmpR_cases n (patS n a b) (patS n a c) with ⟨u, v⟩ | ⟨u, v⟩ | ⟨u, v⟩ <;> omega
  · have h1 := patS_rise n a b c hn ha hb hc ka kb kc (by omega)
    have h2 := patS_rise n a c b hn ha hc hb ka kc kb (by omega)
    rcases cmpR_cases n (patS n a b) (patS n a c) with ⟨u, v⟩ | ⟨u, v⟩ | ⟨u, v⟩ <;> omega
end Go.Proofs.Ytheliihkkoohnaa

namespace Go.Proofs.Ytheliihkkoohnaa
open Go.ChangeShapes Go.WideShapes Go.ChangeAt Go.RowKit
set_option linter.unusedVariables false
set_option linter.unusedSimpArgs false
set_option maxRecDepth 100000

/-! ### the first 320 bits of a sum of two numbers of 128 digits are enough (plain mathematics) -/
/-- where the lesser term stands -/
def lowE (s s' : Int) : Nat := (191 - (s - s')).toNat
def sumE (same : Bool) (M M' k : Nat) : Nat := if same then M * 2 ^ 191 + M' * 2 ^ k else M * 2 ^ 191 - M' * 2 ^ k
theorem mant_le {M M' d : Nat} (hM : Mant M) (hM' : Mant M') (h : d = 0 → M' ≤ M) : M' ≤ M * 2 ^ d := by
  by_cases h0 : d = 0
  · subst h0; rw [Nat.pow_zero, Nat.mul_one]; exact h rfl
  · obtain ⟨e, rfl⟩ : ∃ e, d = e + 1 := ⟨d - 1, by omega⟩
    have : 1 ≤ 2 ^ e := Nat.one_le_two_pow
    have h2 : M * 1 ≤ M * 2 ^ e := Nat.mul_le_mul (Nat.le_refl _) this
    have a := hM.1
    have b := hM'.2
    rw [Nat.pow_succ, ← Nat.mul_assoc]
    omega
theorem sumE_words (ng : Bool) (s : Int) (M : Nat) (nl : Bool) (s' : Int) (M' : Nat) (hM : Mant M) (hM' : Mant M')
    (hle : s' ≤ s) (heq : s = s' → M' ≤ M) : sumD ng s M nl s' M' = exactV ng (sumE (ng == nl) M M' (lowE s s')) (s - 318) false := by
  obtain ⟨d, hd⟩ : ∃ d : Nat, (d : Int) = s - s' := ⟨(s - s').toNat, by omega⟩
  rw [sumD_near ng s _ nl s' _ hM hM' hle d hd]
  have hle2 : M' ≤ M * 2 ^ d := mant_le hM hM' (fun h0 => heq (by omega))
  have m0 : 1 ≤ M' := Nat.le_trans Nat.one_le_two_pow hM'.1
  have hlt : ∀ k, 128 ≤ k → M' < 2 ^ k := fun k hk => Nat.lt_of_lt_of_le hM'.2 (Nat.pow_le_pow_right (by decide) hk)
  rw [if_pos hle2]
  by_cases hs : ng = nl
  · rw [if_pos hs]
    have hb : (ng == nl) = true := by rw [hs]; simp
    unfold sumE
    rw [hb, if_pos rfl]
    by_cases hd2 : d ≤ 191
    · have hk : lowE s s' = 191 - d := by unfold lowE; omega
      have e2 : M * 2 ^ 191 + M' * 2 ^ (191 - d) = (M * 2 ^ d + M') * 2 ^ (191 - d) := by rw [Nat.add_mul, Nat.mul_assoc, ← Nat.pow_add, show d + (191 - d) = 191 by omega]
      rw [hk, e2, show s - 318 = (s - 127 - d) - ((191 - d : Nat) : Int) by omega, exactV_two]
    · have hk : lowE s s' = 0 := by unfold lowE; omega
      have a := far_add ng s (B := M') (d := d) hM m0 (hlt d (by omega))
      have b := far_add ng s (M := M) (B := M') (d := 191) hM m0 (hlt 191 (by omega))
      rw [hk, Nat.pow_zero, Nat.mul_one, a, ← b, show s - 127 - ((191 : Nat) : Int) = s - 318 by omega]
  · rw [if_neg hs]
    have hb : (ng == nl) = false := beq_eq_false_iff_ne.2 hs
    unfold sumE
    rw [hb, if_neg (by decide)]
    by_cases hd2 : d ≤ 191
    · have hk : lowE s s' = 191 - d := by unfold lowE; omega
      have e2 : M * 2 ^ 191 - M' * 2 ^ (191 - d) = (M * 2 ^ d - M') * 2 ^ (191 - d) := by rw [Nat.sub_mul, Nat.mul_assoc, ← Nat.pow_add, show d + (191 - d) = 191 by omega]
      rw [hk, e2, show s - 318 = (s - 127 - d) - ((191 - d : Nat) : Int) by omega, exactV_two]
    · have hk : lowE s s' = 0 := by unfold lowE; omega
      obtain ⟨e, rfl⟩ : ∃ e, d = e + 1 := ⟨d - 1, by omega⟩
      have a := far_sub ng s (B := M') (d := e) hM m0 (hlt e (by omega))
      have b := far_sub ng s (M := M) (B := M') (d := 190) hM m0 (hlt 190 (by omega))
      rw [hk, Nat.pow_zero, Nat.mul_one, a, ← b, show 190 + 1 = 191 from rfl, show s - 127 - ((191 : Nat) : Int) = s - 318 by omega]
theorem sumE_lt {same : Bool} {M M' k : Nat} (hM : M < 2 ^ 128) (hM' : M' < 2 ^ 128) (hk : k ≤ 191) : M * 2 ^ 191 < 1067993517960455041197510853084776057301352261178326384973520803911109862890320275011481043468288 ∧ M' * 2 ^ k < 1067993517960455041197510853084776057301352261178326384973520803911109862890320275011481043468288 ∧ sumE same M M' k < 2135987035920910082395021706169552114602704522356652769947041607822219725780640550022962086936576 := by
  have h1 : M * 2 ^ 191 < 1067993517960455041197510853084776057301352261178326384973520803911109862890320275011481043468288 := Nat.lt_of_lt_of_le ((Nat.mul_lt_mul_right (Nat.pow_pos (by decide))).2 hM) (by decide)
  have h2 : M' * 2 ^ k < 1067993517960455041197510853084776057301352261178326384973520803911109862890320275011481043468288 := Nat.lt_of_le_of_lt (Nat.mul_le_mul (Nat.le_refl M') (Nat.pow_le_pow_right (by decide) hk)) (Nat.lt_of_lt_of_le ((Nat.mul_lt_mul_right (Nat.pow_pos (by decide))).2 hM') (by decide))
  refine ⟨h1, h2, ?_⟩
  unfold sumE
  generalize M * 2 ^ 191 = X at *
  generalize M' * 2 ^ k = Y at *
  split <;> omega
/-- the first digits of a number that stands as high as it may -/
theorem exactV_top5 (neg : Bool) {n k a0 a1 a2 a3 a4 : Nat} (s : Int) (hn : n ≠ 0) (hk : k + blen n = 320) (h : Q5 (n * 2 ^ k) a0 a1 a2 a3 a4) :
    exactV neg n (s - 318) false = exactV neg (manX a4 a3) (s + 1 - k - 127) (decide (a0 ≠ 0 ∨ a1 ≠ 0 ∨ a2 ≠ 0)) ∧ 9223372036854775808 ≤ a4 := by
  obtain ⟨n1, n2⟩ := norm_two k hn
  have hb := blen_two k hn
  have hn0 : n * 2 ^ k ≠ 0 := fun c => by
    rcases Nat.mul_eq_zero.1 c with c | c
    · exact hn c
    · exact absurd c (Nat.pos_iff_ne_zero.1 (Nat.pow_pos (by decide)))
  have h320 : blen (n * 2 ^ k) = 320 := by omega
  have lo := blen_lo hn0
  rw [show blen (n * 2 ^ k) - 1 = 127 + 192 by omega] at lo
  have hi : n * 2 ^ k < 2135987035920910082395021706169552114602704522356652769947041607822219725780640550022962086936576 := blen320.1 (by omega)
  obtain ⟨_, m1, m2⟩ := @norm_at (n * 2 ^ k) 192 lo (by rw [pow320 (128 + 192) rfl]; exact hi)
  rw [pow319 (127 + 192) rfl] at lo
  obtain ⟨e, h0, h1, h2, h3, h4⟩ := h
  have et : 9223372036854775808 ≤ a4 := by
    omega
  have w0 : n * 2 ^ k / 2 ^ 192 = manX a4 a3 := by
    unfold manX
    rw [show (2 : Nat) ^ 192 = 6277101735386680763835789423207666416102355444464034512896 by decide]
    omega
  have w3 : decide (n * 2 ^ k % 2 ^ 192 ≠ 0) = decide (a0 ≠ 0 ∨ a1 ≠ 0 ∨ a2 ≠ 0) := by
    refine decide_eq_decide.2 ?_
    rw [show (2 : Nat) ^ 192 = 6277101735386680763835789423207666416102355444464034512896 by decide]
    omega
  have hM : Mant (manX a4 a3) := WordsX.mant ⟨et, by omega, by omega⟩
  obtain ⟨b, c1, c2⟩ := @norm_at (manX a4 a3) 0 hM.1 hM.2
  have hm0 : manX a4 a3 ≠ 0 := by unfold manX; omega
  refine ⟨?_, et⟩
  unfold exactV
  rw [if_neg hn, if_neg hm0, ← n1, ← n2, m1, m2, w0, w3, b, c1, c2, Nat.pow_zero, Nat.div_one, Nat.mod_one, show s - 318 + (blen n : Int) - 1 = s + 1 - (k : Int) - 127 + ((128 + 0 : Nat) : Int) - 1 by omega]
  simp
end Go.Proofs.Ytheliihkkoohnaa

namespace Go.Proofs.Ytheliihkkoohnaa
open Go.ChangeShapes Go.WideShapes Go.ChangeAt Go.RowKit
set_option linter.unusedVariables false
set_option linter.unusedSimpArgs false
set_option maxRecDepth 100000

/-! ### package fuse: the sum of two reals -/
theorem freals_up (ng : Bool) (s : Int) (hi lo : Nat) (nl : Bool) (s' : Int) (hi' lo' : Nat) (h : WordsX hi lo) (h' : WordsX hi' lo')
    (hs : -1099511627776 ≤ s ∧ s ≤ 1099511627776) (hs' : -1099511627776 ≤ s' ∧ s' ≤ 1099511627776) (hle : s' ≤ s) (heq : s = s' → manX hi' lo' ≤ manX hi lo) (w : World) :
    ((s = s' → manX hi' lo' ≤ manX hi lo) → Calls Try.prog 22 #[exV 1 ng s hi lo false, exV 1 nl s' hi' lo' false] w fun e w' => e = .returned (.tuple #[exactV ng (sumE (ng == nl) (manX hi lo) (manX hi' lo') (lowE s s')) (s - 318) false, .nilIface]) ∧ Below w.heap.size w w') ∧
    ((s = s' → manX hi' lo' < manX hi lo) → Calls Try.prog 22 #[exV 1 nl s' hi' lo' false, exV 1 ng s hi lo false] w fun e w' => e = .returned (.tuple #[exactV ng (sumE (ng == nl) (manX hi lo) (manX hi' lo') (lowE s s')) (s - 318) false, .nilIface]) ∧ Below w.heap.size w w') := by
  have hk : lowE s s' ≤ 191 := by unfold lowE; omega
  have hM := h.mant
  have hM' := h'.mant
  have ta : Tw (manX hi lo) hi lo := ⟨rfl, by have := h.hi64; omega, by have := h.lo64; omega⟩
  have tb : Tw (manX hi' lo') hi' lo' := ⟨rfl, by have := h'.hi64; omega, by have := h'.lo64; omega⟩
  have hgf0 : ∀ d : Nat, (d : Int) = s - s' → manX hi' lo' ≤ manX hi lo * 2 ^ d := fun d hd => mant_le hM hM' (fun h0 => heq (by omega))
  generalize manX hi lo = M at *
  generalize manX hi' lo' = M' at *
  obtain ⟨b1, b2, b3⟩ := sumE_lt (same := (ng == nl)) hM.2 hM'.2 hk
  obtain ⟨_, _, b4⟩ := sumE_lt (same := true) hM.2 hM'.2 hk
  have b4' : M * 2 ^ 191 + M' * 2 ^ lowE s s' < 2135987035920910082395021706169552114602704522356652769947041607822219725780640550022962086936576 := b4
  have hgf : M' * 2 ^ lowE s s' ≤ M * 2 ^ 191 := by
    obtain ⟨d, hd⟩ : ∃ d : Nat, (d : Int) = s - s' := ⟨(s - s').toNat, by omega⟩
    by_cases hd2 : d ≤ 191
    · have e : lowE s s' = 191 - d := by unfold lowE; omega
      have h1 := Nat.mul_le_mul (hgf0 d hd) (Nat.le_refl (2 ^ (191 - d)))
      rw [Nat.mul_assoc, ← Nat.pow_add, show d + (191 - d) = 191 by omega] at h1
      rw [e]; exact h1
    · have e : lowE s s' = 0 := by unfold lowE; omega
      rw [e, Nat.pow_zero, Nat.mul_one]
      have a := hM'.2
      have b : 1 * 2 ^ 191 ≤ M * 2 ^ 191 := Nat.mul_le_mul (Nat.le_trans Nat.one_le_two_pow hM.1) (Nat.le_refl _)
      omega
  obtain ⟨a0, a1, a2, a3, a4, ca⟩ := q5_ex (n := M * 2 ^ 191) (Nat.lt_trans b1 (by decide))
  obtain ⟨y0, y1, y2, y3, y4, cy⟩ := q5_ex (n := M' * 2 ^ lowE s s') (Nat.lt_trans b2 (by decide))
  obtain ⟨p0, p1, p2, p3, p4, cp⟩ := q5_ex b4'
  have k1 := fun w => fplaced_any (k := 191) ta (Nat.le_refl _) ca w
  have k2 := fun w => fplaced_any tb hk cy w
  have k3 := fun w => fplus_any ca cy cp w
  have ks := fun w => fcompare_any 1 ng s (a := M) (hi := hi) (lo := lo) false 1 nl s' (b := M') (hi' := hi') (lo' := lo') false ta tb w
  have kw := fun w => fcompare_any 1 nl s' (a := M') (hi := hi') (lo := lo') false 1 ng s (b := M) (hi' := hi) (lo' := lo) false tb ta w
  have zs : (s = s' → M' ≤ M) → decide (cmpR2 s M s' M' < 0) = false := fun h => decide_eq_false (fun c => by
    rcases (cmpR2_lt s M s' M').1 c with c | ⟨c, d⟩
    · omega
    · have := h c
      omega)
  have zw : (s = s' → M' < M) → decide (cmpR2 s' M' s M < 0) = true := fun h => decide_eq_true ((cmpR2_lt s' M' s M).2 (by
    by_cases c : s = s'
    · exact .inr ⟨c.symm, h c⟩
    · exact .inl (by omega)))
  have q1 : IntKind.i64.wrap (s - s') = s - s' := wrapI (by omega)
  have q2 : IntKind.i64.wrap (191 - (s - s')) = 191 - (s - s') := wrapI (by omega)
  have q3 : (if 191 - (s - s') < 0 then 0 else 191 - (s - s')) = ((lowE s s' : Nat) : Int) := by unfold lowE; split <;> omega
  have q4 : IntKind.i64.wrap (s + 1) = s + 1 := wrapI (by omega)
  have hX : 0 < M * 2 ^ 191 := Nat.mul_pos (by have := hM.1; have := Nat.pow_pos (n := 127) (show 0 < 2 by decide); omega) (Nat.pow_pos (by decide))
  by_cases hn : ng = nl
  · have hb : (ng == nl) = true := by rw [hn]; simp
    have hv : sumE (ng == nl) M M' (lowE s s') = M * 2 ^ 191 + M' * 2 ^ lowE s s' := by unfold sumE; rw [hb, if_pos rfl]
    rw [hv]
    have h0 : M * 2 ^ 191 + M' * 2 ^ lowE s s' ≠ 0 := by omega
    obtain ⟨k, r0, r1, r2, r3, r4, hkb, cr⟩ := risen5_at h0 b4'
    have hbl : 1 ≤ blen (M * 2 ^ 191 + M' * 2 ^ lowE s s') := by rw [blen_pos h0]; omega
    have k5 := fun w => frisen_any cp h0 hkb cr w
    obtain ⟨o, o2, q6, q9, q7⟩ := or_rest3 r0 r1 r2 cr.h0 cr.h1 cr.h2
    have q5 : IntKind.i64.wrap (s + 1 - (k : Int)) = s + 1 - k := wrapI (by omega)
    have q8 : IntKind.i64.wrap (s + 1 - (k : Int) - 127) = s + 1 - k - 127 := wrapI (by omega)
    have hz := q5_zero cp
    rw [decide_eq_false h0] at hz
    obtain ⟨et, top⟩ := exactV_top5 ng s h0 hkb cr
    rw [et]
    have k6 := rmake_ok ng r4 r3 (s + 1 - k - 127) (decide (r0 ≠ 0 ∨ r1 ≠ 0 ∨ r2 ≠ 0)) (by have := cr.h4; omega) (by have := cr.h3; omega) (by omega) (.inr top)
    obtain ⟨K, B, S, H, L, T, hf⟩ := exactV_form ng (manX r4 r3) (s + 1 - k - 127) (decide (r0 ≠ 0 ∨ r1 ≠ 0 ∨ r2 ≠ 0))
    rw [hf] at k6 ⊢
    exact ⟨fun h => freals_stay_same ng s hi lo nl s' hi' lo' _ _ _ _ _ _ _ _ _ _ _ _ _ _ _ _ _ _ _ _ _ _ _ _ _ _ _ _ _ k _ K B S H L T ks (zs h) k1 q1 q2 q3 k2 k3 hb hz k5 q4 q5 q8 q6 q9 q7 k6 w,
      fun h => freals_swap_same ng s hi lo nl s' hi' lo' _ _ _ _ _ _ _ _ _ _ _ _ _ _ _ _ _ _ _ _ _ _ _ _ _ _ _ _ _ k _ K B S H L T kw (zw h) k1 q1 q2 q3 k2 k3 hb hz k5 q4 q5 q8 q6 q9 q7 k6 w⟩
  · have hb : (ng == nl) = false := beq_eq_false_iff_ne.2 hn
    have hv : sumE (ng == nl) M M' (lowE s s') = M * 2 ^ 191 - M' * 2 ^ lowE s s' := by unfold sumE; rw [hb, if_neg (by decide)]
    rw [hv] at b3 ⊢
    obtain ⟨m0, m1, m2, m3, m4, cm⟩ := q5_ex b3
    have k4 := fun w => fminus_any ca cy hgf cm w
    have hz := q5_zero cm
    by_cases h0 : M * 2 ^ 191 - M' * 2 ^ lowE s s' = 0
    · rw [decide_eq_true h0] at hz
      have he : exactV ng (M * 2 ^ 191 - M' * 2 ^ lowE s s') (s - 318) false = exV 0 false 0 0 0 false := by unfold exactV; rw [if_pos h0]
      rw [he]
      exact ⟨fun h => freals_stay_zero ng s hi lo nl s' hi' lo' _ _ _ _ _ _ _ _ _ _ _ _ _ _ _ _ _ _ _ _ _ _ _ _ ks (zs h) k1 q1 q2 q3 k2 k3 hb k4 hz w,
        fun h => freals_swap_zero ng s hi lo nl s' hi' lo' _ _ _ _ _ _ _ _ _ _ _ _ _ _ _ _ _ _ _ _ _ _ _ _ kw (zw h) k1 q1 q2 q3 k2 k3 hb k4 hz w⟩
    · rw [decide_eq_false h0] at hz
      obtain ⟨k, r0, r1, r2, r3, r4, hkb, cr⟩ := risen5_at h0 b3
      have hbl : 1 ≤ blen (M * 2 ^ 191 - M' * 2 ^ lowE s s') := by rw [blen_pos h0]; omega
      have k5 := fun w => frisen_any cm h0 hkb cr w
      obtain ⟨o, o2, q6, q9, q7⟩ := or_rest3 r0 r1 r2 cr.h0 cr.h1 cr.h2
      have q5 : IntKind.i64.wrap (s + 1 - (k : Int)) = s + 1 - k := wrapI (by omega)
      have q8 : IntKind.i64.wrap (s + 1 - (k : Int) - 127) = s + 1 - k - 127 := wrapI (by omega)
      obtain ⟨et, top⟩ := exactV_top5 ng s h0 hkb cr
      rw [et]
      have k6 := rmake_ok ng r4 r3 (s + 1 - k - 127) (decide (r0 ≠ 0 ∨ r1 ≠ 0 ∨ r2 ≠ 0)) (by have := cr.h4; omega) (by have := cr.h3; omega) (by omega) (.inr top)
      obtain ⟨K, B, S, H, L, T, hf⟩ := exactV_form ng (manX r4 r3) (s + 1 - k - 127) (decide (r0 ≠ 0 ∨ r1 ≠ 0 ∨ r2 ≠ 0))
      rw [hf] at k6 ⊢
      exact ⟨fun h => freals_stay_diff ng s hi lo nl s' hi' lo' _ _ _ _ _ _ _ _ _ _ _ _ _ _ _ _ _ _ _ _ _ _ _ _ _ _ _ _ _ _ _ _ _ _ k _ K B S H L T ks (zs h) k1 q1 q2 q3 k2 k3 hb k4 hz k5 q4 q5 q8 q6 q9 q7 k6 w,
        fun h => freals_swap_diff ng s hi lo nl s' hi' lo' _ _ _ _ _ _ _ _ _ _ _ _ _ _ _ _ _ _ _ _ _ _ _ _ _ _ _ _ _ _ _ _ _ _ k _ K B S H L T kw (zw h) k1 q1 q2 q3 k2 k3 hb k4 hz k5 q4 q5 q8 q6 q9 q7 k6 w⟩
theorem freals_any (neg : Bool) (s : Int) (hi lo : Nat) (neg' : Bool) (s' : Int) (hi' lo' : Nat) (h : WordsX hi lo) (h' : WordsX hi' lo') (hs : -1099511627776 ≤ s ∧ s ≤ 1099511627776) (hs' : -1099511627776 ≤ s' ∧ s' ≤ 1099511627776) (w : World) :
    Calls Try.prog 22 #[exV 1 neg s hi lo false, exV 1 neg' s' hi' lo' false] w fun e w' => e = .returned (.tuple #[sumR neg s (manX hi lo) neg' s' (manX hi' lo'), .nilIface]) ∧ Below w.heap.size w w' := by
  by_cases c : s < s' ∨ (s = s' ∧ manX hi lo < manX hi' lo')
  · have hle : s ≤ s' := by omega
    have hw := (freals_up neg' s' hi' lo' neg s hi lo h' h hs' hs hle (fun h => by omega) w).2 (fun h => by omega)
    rw [← sumE_words neg' s' (manX hi' lo') neg s (manX hi lo) h'.mant h.mant hle (fun h => by omega)] at hw
    have e : sumR neg s (manX hi lo) neg' s' (manX hi' lo') = sumD neg' s' (manX hi' lo') neg s (manX hi lo) := by
      unfold sumR
      by_cases c2 : s < s'
      · rw [if_pos c2]
      · rw [if_neg c2]
        obtain rfl : s = s' := by omega
        rw [sumD_int neg s _ neg' s _ h.mant h'.mant (Int.le_refl _) s 0 0 (by omega) (by omega), sumD_int neg' s _ neg s _ h'.mant h.mant (Int.le_refl _) s 0 0 (by omega) (by omega), Int.add_comm]
    rw [e]
    exact hw
  · have hle : s' ≤ s := by omega
    have hw := (freals_up neg s hi lo neg' s' hi' lo' h h' hs hs' hle (fun h => by omega) w).1 (fun h => by omega)
    rw [← sumE_words neg s (manX hi lo) neg' s' (manX hi' lo') h.mant h'.mant hle (fun h => by omega)] at hw
    have e : sumR neg s (manX hi lo) neg' s' (manX hi' lo') = sumD neg s (manX hi lo) neg' s' (manX hi' lo') := by
      unfold sumR; rw [if_neg (by omega)]
    rw [e]
    exact hw
end Go.Proofs.Ytheliihkkoohnaa

namespace Go.Proofs.Ytheliihkkoohnaa
open Go.ChangeShapes Go.WideShapes Go.ChangeAt Go.RowKit
set_option linter.unusedVariables false
set_option linter.unusedSimpArgs false
set_option maxRecDepth 100000

/-! ### codec.Decode, by what a pattern means -/
theorem cdecode_v (n x : Nat) (hn : Wd n) (hx : x < 2 ^ 64) (w : World) :
    Calls Try.prog 27 #[.int .i64 n, .int .u64 x] w fun e w' => e = .returned (.tuple #[numV (vK n x) (vB n x) (vS n x) (vF n x), .nilIface]) ∧ Below w.heap.size w w' := by
  unfold vK vB vS vF
  by_cases hk : kindOf n (x % 2 ^ n) = 1
  · rw [if_pos hk, if_pos hk, if_pos hk]
    have := cdecode_real n x hn hx hk w
    rwa [← hk] at this
  · rw [if_neg hk, if_neg hk, if_neg hk]
    exact cdecode_other n x hn hx hk w
end Go.Proofs.Ytheliihkkoohnaa

namespace Go.Proofs.Ytheliihkkoohnaa
set_option maxRecDepth 100000
set_option linter.unusedVariables false
set_option linter.unusedSimpArgs false

/-! ### products (plain mathematics) -/
theorem patI_two (n : Nat) (T : Int) (j : Nat) (e : Int) : patI n (T * ((2 ^ j : Nat) : Int)) (e - j) = patI n T e := by
  have hp : 0 < 2 ^ j := Nat.pow_pos (by decide)
  unfold patI mgI
  by_cases h : T = 0
  · rw [h, Int.zero_mul, if_pos rfl, if_pos rfl]
  · have hpI : (0 : Int) < ((2 ^ j : Nat) : Int) := by omega
    have h2 : T * ((2 ^ j : Nat) : Int) ≠ 0 := Int.mul_ne_zero h (by omega)
    have h0 : T.natAbs ≠ 0 := by omega
    obtain ⟨a, b⟩ := norm_two j h0
    rw [if_neg h, if_neg h2, Int.natAbs_mul, Int.natAbs_natCast, a, b, blen_two j h0]
    have hs : decide (T * ((2 ^ j : Nat) : Int) < 0) = decide (T < 0) := by
      by_cases c : T < 0
      · rw [decide_eq_true c, decide_eq_true (Int.mul_neg_of_neg_of_pos c hpI)]
      · rw [decide_eq_false c, decide_eq_false (Int.not_lt.2 (Int.mul_nonneg (by omega) (by omega)))]
    rw [hs, show e - (j : Int) + ((blen T.natAbs + j : Nat) : Int) - 1 = e + (blen T.natAbs : Int) - 1 by omega]
def xorB (a b : Bool) : Bool := decide (a ≠ b)
theorem sg_times (a b : Bool) (N M : Nat) : sg a N * sg b M = sg (xorB a b) (N * M) := by
  unfold sg xorB
  cases a <;> cases b <;> simp [Int.neg_mul, Int.mul_neg]
/-- the product ahead of its rounding -/
def prod10 (k : Int) (neg : Bool) (s : Int) (f : Nat) (k' : Int) (neg' : Bool) (s' : Int) (g : Nat) : Value :=
  if k = 2 ∨ k' = 2 then exV 2 false 0 0 0 false
  else if k = 0 ∨ k' = 0 then exV 0 false 0 0 0 false
  else exactV (xorB neg neg') (f * g) (s + s' - 126) false
theorem manX_zero (f : Nat) : manX f 0 = f * 2 ^ 64 := by unfold manX; rw [Nat.add_zero, show (2 : Nat) ^ 64 = 18446744073709551616 by decide]
theorem prod_val (n a b : Nat) (hn : Wd n) (ha : a < 2 ^ 64) (hb : b < 2 ^ 64) (ka : vK n a = 1) (kb : vK n b = 1) :
    exactV (xorB (vB n a) (vB n b)) (vF n a * vF n b) (vS n a + vS n b - 126) false = exI (valI n a * valI n b) (eN + eN) := by
  obtain ⟨_, _, _, _, _, _, _, sa1, sa2⟩ := v_real n a hn ha ka
  obtain ⟨_, _, _, _, _, _, _, sb1, sb2⟩ := v_real n b hn hb kb
  have hw := wd_le hn
  unfold valI
  rw [if_pos ka, if_pos kb, manX_zero, manX_zero, ← exI_sg]
  obtain ⟨j, hj⟩ : ∃ j : Nat, (j : Int) = vS n a + 248 := ⟨(vS n a + 248).toNat, by omega⟩
  obtain ⟨j', hj'⟩ : ∃ j' : Nat, (j' : Int) = vS n b + 248 := ⟨(vS n b + 248).toNat, by omega⟩
  rw [show (vS n a + 248).toNat = j by omega, show (vS n b + 248).toNat = j' by omega]
  have e1 : sg (vB n a) (vF n a * 2 ^ 64) * ((2 ^ j : Nat) : Int) * (sg (vB n b) (vF n b * 2 ^ 64) * ((2 ^ j' : Nat) : Int)) = sg (xorB (vB n a) (vB n b)) (vF n a * vF n b) * ((2 ^ (64 + j + (64 + j')) : Nat) : Int) := by
    rw [← sg_mul, ← sg_mul, sg_times, ← sg_mul]
    congr 1
    rw [Nat.mul_assoc (vF n a), ← Nat.pow_add, Nat.mul_assoc (vF n b), ← Nat.pow_add, Nat.pow_add 2 (64 + j)]
    simp only [Nat.mul_assoc, Nat.mul_left_comm, Nat.mul_comm]
  rw [e1]
  have e2 : eN + eN = vS n a + vS n b - 126 - ((64 + j + (64 + j') : Nat) : Int) := by unfold eN; omega
  rw [e2, exI_two]
theorem prod10_val (n a b : Nat) (hn : Wd n) (ha : a < 2 ^ 64) (hb : b < 2 ^ 64) :
    prod10 (vK n a) (vB n a) (vS n a) (vF n a) (vK n b) (vB n b) (vS n b) (vF n b) = if vK n a = 2 ∨ vK n b = 2 then exV 2 false 0 0 0 false else exI (valI n a * valI n b) (eN + eN) := by
  unfold prod10
  by_cases h2 : vK n a = 2 ∨ vK n b = 2
  · rw [if_pos h2, if_pos h2]
  · rw [if_neg h2, if_neg h2]
    have na : vK n a ≠ 2 := fun c => h2 (.inl c)
    have nb : vK n b ≠ 2 := fun c => h2 (.inr c)
    by_cases h0 : vK n a = 0 ∨ vK n b = 0
    · rw [if_pos h0]
      have hz : valI n a * valI n b = 0 := by
        rcases h0 with c | c
        · rw [val_zero n a (by rw [c]; decide), Int.zero_mul]
        · rw [val_zero n b (by rw [c]; decide), Int.mul_zero]
      rw [hz]
      exact (exactV_zero _ _ _).symm
    · rw [if_neg h0]
      have a1 : vK n a = 1 := by rcases v_kinds n a hn with ⟨h, _⟩ | h | ⟨h, _⟩; exact absurd (.inl h) h0; exact h; exact absurd h na
      have b1 : vK n b = 1 := by rcases v_kinds n b hn with ⟨h, _⟩ | h | ⟨h, _⟩; exact absurd (.inr h) h0; exact h; exact absurd h nb
      exact prod_val n a b hn ha hb a1 b1
/-- the pattern of a product -/
def patP (n a b : Nat) : Nat := if vK n a = 2 ∨ vK n b = 2 then 2 ^ (n - 1) else patI n (valI n a * valI n b) (eN + eN)
theorem patP_lt (n a b : Nat) (hn : Wd n) : patP n a b < 2 ^ n := by
  obtain ⟨H, p1, p2, p3, _⟩ := wd_pows hn
  unfold patP
  split
  · omega
  · exact (patI_lt _ _ hn).1
theorem patP_comm (n a b : Nat) : patP n a b = patP n b a := by
  unfold patP
  rw [Int.mul_comm]
  by_cases h : vK n a = 2 ∨ vK n b = 2
  · rw [if_pos h, if_pos h.symm]
  · rw [if_neg h, if_neg (fun c => h c.symm)]
theorem patP_nar (n a b : Nat) (h : vK n a = 2 ∨ vK n b = 2) : patP n a b = 2 ^ (n - 1) := by unfold patP; rw [if_pos h]
theorem patP_zero (n a : Nat) (h : vK n a ≠ 2) : patP n a 0 = 0 := by
  unfold patP
  rw [if_neg (by rw [vK_zero]; rintro (c | c); exact h c; exact absurd c (by decide)), val_zero n 0 (by rw [vK_zero]; decide), Int.mul_zero]
  rfl
/-- 1 -/
theorem one_val (n : Nat) (hn : Wd n) : vK n (2 ^ (n - 2)) = 1 ∧ valI n (2 ^ (n - 2)) = ((2 ^ 375 : Nat) : Int) := by
  rcases hn with rfl | rfl | rfl | rfl
  · exact ⟨by decide, by decide +kernel⟩
  · exact ⟨by decide +kernel, by decide +kernel⟩
  · exact ⟨by decide +kernel, by decide +kernel⟩
  · exact ⟨by decide +kernel, by decide +kernel⟩
theorem one_lt (n : Nat) (hn : Wd n) : 2 ^ (n - 2) < 2 ^ 64 := by rcases hn with rfl | rfl | rfl | rfl <;> decide
theorem patI_one (n : Nat) (T : Int) : patI n (T * ((2 ^ 375 : Nat) : Int)) (eN + eN) = patI n T eN := by
  have := patI_two n T 375 eN
  rw [show eN - ((375 : Nat) : Int) = eN + eN from rfl] at this
  exact this
theorem patP_one (n a : Nat) (hn : Wd n) (ha : a < 2 ^ 64) : patP n a (2 ^ (n - 2)) = a % 2 ^ n := by
  obtain ⟨k1, v1⟩ := one_val n hn
  by_cases h : vK n a = 2
  · rw [patP_nar n a _ (.inl h)]
    rcases v_kinds n a hn with ⟨c, _⟩ | c | ⟨_, c⟩
    · exact absurd (c.symm.trans h) (by decide)
    · exact absurd (c.symm.trans h) (by decide)
    · exact c.symm
  · unfold patP
    rw [if_neg (by rw [k1]; rintro (c | c); exact h c; exact absurd c (by decide)), v1, patI_one]
    exact patI_own n a hn ha h
theorem patP_minus (n a b : Nat) (hn : Wd n) (ha : a < 2 ^ 64) : patP n (minusU a) b = negO n (patP n a b) := by
  obtain ⟨ka, va⟩ := val_minus n a hn ha
  unfold patP
  rw [ka]
  by_cases h : vK n a = 2 ∨ vK n b = 2
  · rw [if_pos h, if_pos h, negO_nar n hn]
  · rw [if_neg h, if_neg h, va, Int.neg_mul, patI_neg _ _ hn, negO_eq n _ hn (lt64_of hn (patI_lt _ _ hn).1), Nat.mod_eq_of_lt (a := patI n (valI n a * valI n b) (eN + eN)) (patI_lt _ _ hn).1]
theorem negO_mod (n a : Nat) (hn : Wd n) (ha : a < 2 ^ 64) : negO n (a % 2 ^ n) = negO n a := by
  have hm := Nat.mod_lt a (show 0 < 2 ^ n from Nat.pow_pos (by decide))
  rw [negO_eq n _ hn (lt64_of hn hm), negO_eq n a hn ha, Nat.mod_eq_of_lt hm]
theorem patP_mone (n a : Nat) (hn : Wd n) (ha : a < 2 ^ 64) : patP n (minusU (2 ^ (n - 2))) a = negO n a := by
  rw [patP_minus n _ a hn (one_lt n hn), patP_comm, patP_one n a hn ha, negO_mod n a hn ha]
/-- powers, one factor at a time -/
def powP (n a : Nat) : Nat → Nat
  | 0 => 2 ^ (n - 2)
  | k + 1 => patP n (powP n a k) a
theorem powP_lt (n a k : Nat) (hn : Wd n) : powP n a k < 2 ^ 64 := by
  cases k with
  | zero => exact one_lt n hn
  | succ k => exact lt64_of hn (patP_lt n _ a hn)
end Go.Proofs.Ytheliihkkoohnaa

namespace Go.Proofs.Ytheliihkkoohnaa
open Go.ChangeShapes Go.WideShapes Go.ChangeAt Go.RowKit
set_option linter.unusedVariables false
set_option maxRecDepth 100000

end Go.Proofs.Ytheliihkkoohnaa

namespace Go.Proofs.Ytheliihkkoohnaa
open Go.ChangeShapes Go.WideShapes Go.ChangeAt Go.RowKit
set_option linter.unusedVariables false
set_option linter.unusedSimpArgs false
set_option maxRecDepth 100000

/-! ### the document's Sum -/
theorem Row.cset {w : World} {v : Value} {l : List Nat} (h : Row w v l) (m k : Nat) (u u' : Value) (hc : w.cell? ⟨m, k, none⟩ = some u) (hu : ∀ x, u ≠ .int .i64 x) : Row (w.setCell ⟨m, k, none⟩ u') v l := h.setU m k u u' hc hu
theorem sumD_branch (neg : Bool) (s : Int) (M : Nat) (neg' : Bool) (s' : Int) (M' : Nat) (d b : Nat) (h : (¬ 400 < s - s' ∧ (d : Int) = s - s' ∧ b = M') ∨ (400 < s - s' ∧ d = 400 ∧ b = 1)) :
    sumD neg s M neg' s' M' = if neg = neg' then exactV neg (M * 2 ^ d + b) (s - 127 - d) false else if b ≤ M * 2 ^ d then exactV neg (M * 2 ^ d - b) (s - 127 - d) false else exactV neg' (b - M * 2 ^ d) (s - 127 - d) false := by
  unfold sumD
  rcases h with ⟨h1, h2, rfl⟩ | ⟨h1, h2, rfl⟩
  · simp only [if_neg h1]
    rw [show (s - s').toNat = d by omega]
  · simp only [if_pos h1]
    rw [farD_eq, ← h2]
theorem cmp_ge {a b : Nat} (h : b ≤ a) : decide ((0 : Int) ≤ cmpN a b) = true := by
  refine decide_eq_true ?_
  rcases Nat.lt_or_ge b a with x | x
  · rw [cmpN_gt x]; decide
  · have e : b = a := Nat.le_antisymm h x
    rw [e, cmpN_eq]; decide
theorem mul_blen {M d b : Nat} (hM : M < 2 ^ 128) (hb : b < 2 ^ 128) (hd : d ≤ 400) : blen (M * 2 ^ d + b) ≤ 1000 := by
  have h1 : M * 2 ^ d < 2 ^ (128 + d) := by rw [Nat.pow_add]; exact Nat.mul_lt_mul_of_pos_right hM (Nat.pow_pos (by decide))
  have h2 : b < 2 ^ (128 + d) := Nat.lt_of_lt_of_le hb (Nat.pow_le_pow_right (by decide) (by omega))
  have h3 : blen (M * 2 ^ d + b) ≤ 128 + d + 1 := blen_le.2 (by rw [Nat.pow_succ]; omega)
  omega
set_option maxHeartbeats 4000000 in
theorem sum9_near_add (neg : Bool) (s : Int) (hi lo : Nat) (neg' : Bool) (s' : Int) (hi' lo' : Nat) (h : WordsX hi lo) (h' : WordsX hi' lo') (hs : -1099511627776 ≤ s ∧ s ≤ 1099511627776) (hs' : -1099511627776 ≤ s' ∧ s' ≤ 1099511627776) (hle : s' ≤ s) (hf : ¬ 400 < s - s') (hn : neg = neg') (d : Nat) (hd : (d : Int) = s - s') (w : World) :
    Calls Try.prog 24 #[exV 1 neg s hi lo false, exV 1 neg' s' hi' lo' false] w fun e w' => e = .returned (exactV neg (manX hi lo * 2 ^ d + manX hi' lo') (s - 127 - d) false) ∧ Below w.heap.size w w' := by
  have hM := h.mant
  have hM' := h'.mant
  have hd4 : d ≤ 400 := by omega
  have hbl := @mul_blen (manX hi lo) d (manX hi' lo') hM.2 hM'.2 hd4
  have hbl1 := @mul_blen (manX hi lo) d 1 hM.2 (by decide) hd4
  have hTM : Tw (manX hi lo) hi lo := ⟨rfl, by have := h.hi64; omega, by have := h.lo64; omega⟩
  have hTM' : Tw (manX hi' lo') hi' lo' := ⟨rfl, by have := h'.hi64; omega, by have := h'.lo64; omega⟩
  have hA1 : blen (manX hi lo * 2 ^ d) ≤ 1000 := Nat.le_trans (blen_mono (Nat.le_add_right _ _)) hbl
  have hS0 := dlen_mant hM.2
  have hSA := dlen_of_blen (Nat.le_trans hA1 (by decide : 1000 ≤ 1099511627776))
  have k1 := fun w => rof_any hTM w
  have k2 := fun w => rof_any hTM' w
  have k3 := fun v w hr => nshl_anyq v (manX hi lo) d (by omega) hS0 w hr
  have hNb : blen (manX hi lo * 2 ^ d + manX hi' lo') ≤ 1000 := hbl
  have k5 := fun va vb w ha hb => nadd_anyq va vb (manX hi lo * 2 ^ d) (manX hi' lo') (dlen_of_blen (Nat.le_trans hNb (by decide : 1000 ≤ 1099511627776))) w ha hb
  have k6 := fun v w hr => exactly7_any neg v (manX hi lo * 2 ^ d + manX hi' lo') (s - 127 - d) false (Nat.le_trans hNb (by decide)) (by omega) w hr
  obtain ⟨K, B, S, H, L, R, hform⟩ := exactV_form neg (manX hi lo * 2 ^ d + manX hi' lo') (s - 127 - d) false
  rw [hform] at k6 ⊢
  have e1 : IntKind.i64.wrap (s - s') = s - s' := wrapI (by omega)
  have g0 : decide (s < s') = false := decide_eq_false (by omega)
  have e2 : IntKind.i64.wrap (s - 127) = s - 127 := wrapI (by omega)
  have e3 : IntKind.i64.wrap (s - 127 - (d : Int)) = s - 127 - (d : Int) := wrapI (by omega)
  have g1 : decide ((400 : Int) < (d : Int)) = false := decide_eq_false (by omega)
  replace e1 : IntKind.i64.wrap (s - s') = (d : Int) := e1.trans hd.symm
  subst hn
  have hle3 : True := trivial
  generalize (manX hi lo * 2 ^ d + manX hi' lo') = NN at *
  generalize manX hi lo * 2 ^ d = A at *
  generalize manX hi lo = M at *
  generalize manX hi' lo' = M2 at *
  clear hform hbl hbl1 hNb hA1 hSA hS0 hTM hTM' hM hM' h h' hs hs' hle hf hd hd4 hle3
  unfold exV at *
  refine cps fun Q hQ => ?_
  go_enter Try.func24, Try.ntmps24
  go_wp2_with (first
    | (go_at_call_of 44 hi; go_must (refine (k1 _).mono ?_); rintro e w1 ⟨v1, rfl, hr1, hb1⟩; have R1_0 := (hb1.block (w.heap.size) (by first | (simp; done) | (simp; omega) | omega)).trans ((Below.heap_alloc _ _ _ (by first | (simp; done) | (simp; omega) | omega)).trans ((Below.heap_alloc _ _ _ (by first | (simp; done) | (simp; omega) | omega)).trans (rownew' _ _ _ _ (by simp)))); have z1_0 : w.heap.size < w1.heap.size := Nat.lt_of_lt_of_le (by first | (simp; done) | (simp; omega) | omega) hb1.size; have HR1_0 : Hid _ := R1_0; clear R1_0; have R1_1 := (hb1.block (w.heap.size + 1) (by first | (simp; done) | (simp; omega) | omega)).trans ((Below.heap_alloc _ _ _ (by first | (simp; done) | (simp; omega) | omega)).trans (rownew' _ _ _ _ (by simp))); have z1_1 : w.heap.size + 1 < w1.heap.size := Nat.lt_of_lt_of_le (by first | (simp; done) | (simp; omega) | omega) hb1.size; have c1_1_3 := rowcell R1_1 3; have c1_1_4 := rowcell R1_1 4; simp only [List.getElem?_toArray, List.getElem?_cons_zero, List.getElem?_cons_succ] at c1_1_3 c1_1_4; have HR1_1 : Hid _ := R1_1; clear R1_1; have R1_2 := (hb1.block (w.heap.size + 1 + 1) (by first | (simp; done) | (simp; omega) | omega)).trans (rownew' _ _ _ _ (by simp)); have z1_2 : w.heap.size + 1 + 1 < w1.heap.size := Nat.lt_of_lt_of_le (by first | (simp; done) | (simp; omega) | omega) hb1.size; have HR1_2 : Hid _ := R1_2; clear R1_2; have HB1 : Hid (Below _ _ _) := hb1; clear hb1; have HV1 : Hid (Row w1 v1 (dig M)) := hr1; clear hr1)
    | (go_at_call_of 44 hi'; go_must (refine (k2 _).mono ?_); rintro e w2 ⟨v2, rfl, hr2, hb2⟩; have R2_0 := (hb2.block (w.heap.size) (by first | (simp; done) | (simp; omega) | omega)).trans HR1_0.out; have z2_0 : w.heap.size < w2.heap.size := Nat.lt_of_lt_of_le (by first | (simp; done) | (simp; omega) | omega) hb2.size; have c2_0_2 := rowcell R2_0 2; simp only [List.getElem?_toArray, List.getElem?_cons_zero, List.getElem?_cons_succ] at c2_0_2; have HR2_0 : Hid _ := R2_0; clear R2_0; have R2_1 := (hb2.block (w.heap.size + 1) (by first | (simp; done) | (simp; omega) | omega)).trans HR1_1.out; have z2_1 : w.heap.size + 1 < w2.heap.size := Nat.lt_of_lt_of_le (by first | (simp; done) | (simp; omega) | omega) hb2.size; have c2_1_2 := rowcell R2_1 2; simp only [List.getElem?_toArray, List.getElem?_cons_zero, List.getElem?_cons_succ] at c2_1_2; have HR2_1 : Hid _ := R2_1; clear R2_1; have R2_2 := (hb2.block (w.heap.size + 1 + 1) (by first | (simp; done) | (simp; omega) | omega)).trans HR1_2.out; have z2_2 : w.heap.size + 1 + 1 < w2.heap.size := Nat.lt_of_lt_of_le (by first | (simp; done) | (simp; omega) | omega) hb2.size; have HR2_2 : Hid _ := R2_2; clear R2_2; have HB2 : Hid (Below _ _ _) := hb2; clear hb2; have HV2 : Hid (Row w2 v2 (dig M2)) := hr2; have HW1 : Hid (Row w2 v1 (dig M)) := HV1.out.below HB2.out; clear hr2)
    | (go_at_call 45; go_must (refine (k3 _ _ HW1.out).mono ?_); rintro e w3 ⟨v3, rfl, hr3, hb3⟩; have R3_0 := (hb3.block (w.heap.size) (by first | (simp; done) | (simp; omega) | omega)).trans HR2_0.out; have z3_0 : w.heap.size < w3.heap.size := Nat.lt_of_lt_of_le (by first | (simp; done) | (simp; omega) | omega) hb3.size; have c3_0_2 := rowcell R3_0 2; have c3_0_1 := rowcell R3_0 1; simp only [List.getElem?_toArray, List.getElem?_cons_zero, List.getElem?_cons_succ] at c3_0_2 c3_0_1; have HR3_0 : Hid _ := R3_0; clear R3_0; have R3_1 := (hb3.block (w.heap.size + 1) (by first | (simp; done) | (simp; omega) | omega)).trans HR2_1.out; have z3_1 : w.heap.size + 1 < w3.heap.size := Nat.lt_of_lt_of_le (by first | (simp; done) | (simp; omega) | omega) hb3.size; have c3_1_1 := rowcell R3_1 1; simp only [List.getElem?_toArray, List.getElem?_cons_zero, List.getElem?_cons_succ] at c3_1_1; have HR3_1 : Hid _ := R3_1; clear R3_1; have R3_2 := (hb3.block (w.heap.size + 1 + 1) (by first | (simp; done) | (simp; omega) | omega)).trans HR2_2.out; have z3_2 : w.heap.size + 1 + 1 < w3.heap.size := Nat.lt_of_lt_of_le (by first | (simp; done) | (simp; omega) | omega) hb3.size; have HR3_2 : Hid _ := R3_2; clear R3_2; have HB3 : Hid (Below _ _ _) := hb3; clear hb3; have HV3 : Hid (Row w3 v3 (dig A)) := hr3; have HW2 : Hid (Row w3 v2 (dig M2)) := HV2.out.below HB3.out; clear hr3))
  have bq : Below w3.heap.size w3 w3 := Below.refl _ _
  have cls : ∀ W, Below w3.heap.size w3 W → W.cell? ⟨w.heap.size, 1, none⟩ = some (.bool neg) := fun W hW => (hW.cell (p := ⟨w.heap.size, 1, none⟩) z3_0).trans c3_0_1
  refine wpC_region (fun W => W.cell? ⟨w.heap.size, 1, none⟩ = some (.bool neg)) (by kernel_rfl) ?_
  refine wpC_take 0 (v := ?_) rfl (by kernel_rfl) (fun _ _ _ h => h) (by kernel_rfl) ?_ ?_; rotate_left; · (intro wC hC; obtain c1 := hC; go_simp <;> with_reducible rfl)
  refine wpC_take 1 (v := ?_) rfl (by kernel_rfl) (fun _ _ _ h => h) (by kernel_rfl) ?_ ?_; rotate_left; · (intro wC hC; obtain c1 := hC; go_simp <;> with_reducible rfl)
  refine wpC_take 2 (v := ?_) rfl (by kernel_rfl) (fun _ _ _ h => h) (by kernel_rfl) ?_ ?_; rotate_left; · (intro wC hC; obtain c1 := hC; go_simp <;> with_reducible rfl)
  refine wpC_take 3 (v := ?_) rfl (by kernel_rfl) (fun _ _ _ h => h) (by kernel_rfl) ?_ ?_; rotate_left; · (intro wC hC; obtain c1 := hC; go_simp <;> with_reducible rfl)
  refine wpC_take 5 (v := ?_) rfl (by kernel_rfl) (fun _ _ _ h => h) (by kernel_rfl) ?_ ?_; rotate_left; · (intro wC hC; obtain c1 := hC; go_simp <;> with_reducible rfl)
  refine wpC_step 4 rfl (by kernel_rfl) (by kernel_rfl) (cls _ (cdrew bq)) (fun K hK => ?_)
  go_simp
  go_wp2_with ((go_at_call 47; go_must (refine (k5 _ _ _ (HV3.out.below (cdrew bq)) (HW2.out.below (cdrew bq))).mono ?_); rintro e w4 ⟨v4, rfl, hr4, hb4⟩))
  try (refine hK _ _ ?_; clear hK K)
  have b4 : Below w3.heap.size w3 w4 := cthen (cdrew bq) hb4
  refine wpC_step 6 rfl (by kernel_rfl) (by kernel_rfl) (cls _ b4) (fun K hK => ?_)
  go_simp
  go_wp2_with ((go_at_call 46; go_must (refine (k6 _ _ hr4).mono ?_); rintro e w5 ⟨rfl, hb5⟩))
  try (refine hK _ _ ?_; clear hK K)
  have b5 : Below w3.heap.size w3 w5 := cthen b4 hb5
  have RR := (b5.block (w.heap.size + 1 + 1) z3_2).trans HR3_2.out
  have r0 := rowcell RR 0
  have r1 := rowcell RR 1
  have r2 := rowcell RR 2
  have r3 := rowcell RR 3
  have r4 := rowcell RR 4
  have r5 := rowcell RR 5
  have rf := rowfree RR
  simp only [List.getElem?_toArray, List.getElem?_cons_zero, List.getElem?_cons_succ] at r0 r1 r2 r3 r4 r5
  refine wpC_step 7 rfl (by kernel_rfl) (by kernel_rfl) (cls _ b5) (fun K hK => ?_)
  go_simp
  try (refine hK _ _ ?_; clear hK K)
  refine wpC_done (by kernel_rfl) (by simp [go_sem, cls _ b5]) ?_
  go_wp2
  refine bodyPost_ret (v := .agg #[.int .i64 K, .bool B, .int .i64 S, .int .u64 H, .int .u64 L, .bool R]) (by simp [results, Try.results24, go_sem, r0, r1, r2, r3, r4, r5]) rfl (hQ.out _ _ ⟨by simp, ?_⟩)
  exact cset6 (cthen (cthen (cthen (cthen (cmore (cmore (cmore (Below.refl _ _) _) _) _) HB1.out) HB2.out) HB3.out) b5) (by omega)
set_option maxHeartbeats 4000000 in
theorem sum9_near_sub (neg : Bool) (s : Int) (hi lo : Nat) (neg' : Bool) (s' : Int) (hi' lo' : Nat) (h : WordsX hi lo) (h' : WordsX hi' lo') (hs : -1099511627776 ≤ s ∧ s ≤ 1099511627776) (hs' : -1099511627776 ≤ s' ∧ s' ≤ 1099511627776) (hle : s' ≤ s) (hf : ¬ 400 < s - s') (hn : neg ≠ neg') (d : Nat) (hd : (d : Int) = s - s') (hc : manX hi' lo' ≤ manX hi lo * 2 ^ d) (w : World) :
    Calls Try.prog 24 #[exV 1 neg s hi lo false, exV 1 neg' s' hi' lo' false] w fun e w' => e = .returned (exactV neg (manX hi lo * 2 ^ d - manX hi' lo') (s - 127 - d) false) ∧ Below w.heap.size w w' := by
  have hM := h.mant
  have hM' := h'.mant
  have hd4 : d ≤ 400 := by omega
  have hbl := @mul_blen (manX hi lo) d (manX hi' lo') hM.2 hM'.2 hd4
  have hbl1 := @mul_blen (manX hi lo) d 1 hM.2 (by decide) hd4
  have hTM : Tw (manX hi lo) hi lo := ⟨rfl, by have := h.hi64; omega, by have := h.lo64; omega⟩
  have hTM' : Tw (manX hi' lo') hi' lo' := ⟨rfl, by have := h'.hi64; omega, by have := h'.lo64; omega⟩
  have hA1 : blen (manX hi lo * 2 ^ d) ≤ 1000 := Nat.le_trans (blen_mono (Nat.le_add_right _ _)) hbl
  have hS0 := dlen_mant hM.2
  have hSA := dlen_of_blen (Nat.le_trans hA1 (by decide : 1000 ≤ 1099511627776))
  have k1 := fun w => rof_any hTM w
  have k2 := fun w => rof_any hTM' w
  have k3 := fun v w hr => nshl_anyq v (manX hi lo) d (by omega) hS0 w hr
  have hNb : blen (manX hi lo * 2 ^ d - manX hi' lo') ≤ 1000 := Nat.le_trans (blen_mono (Nat.sub_le _ _)) hA1
  have k4 := fun va vb w ha hb => ncmp_anyq va vb (manX hi lo * 2 ^ d) (manX hi' lo') w ha hb
  have hcm : decide ((0 : Int) ≤ cmpN (manX hi lo * 2 ^ d) (manX hi' lo')) = true := cmp_ge hc
  have k5 := fun va vb w ha hb => nsub_anyq va vb (manX hi lo * 2 ^ d) (manX hi' lo') hc hSA w ha hb
  have k6 := fun v w hr => exactly7_any neg v (manX hi lo * 2 ^ d - manX hi' lo') (s - 127 - d) false (Nat.le_trans hNb (by decide)) (by omega) w hr
  obtain ⟨K, B, S, H, L, R, hform⟩ := exactV_form neg (manX hi lo * 2 ^ d - manX hi' lo') (s - 127 - d) false
  rw [hform] at k6 ⊢
  have e1 : IntKind.i64.wrap (s - s') = s - s' := wrapI (by omega)
  have g0 : decide (s < s') = false := decide_eq_false (by omega)
  have e2 : IntKind.i64.wrap (s - 127) = s - 127 := wrapI (by omega)
  have e3 : IntKind.i64.wrap (s - 127 - (d : Int)) = s - 127 - (d : Int) := wrapI (by omega)
  have g1 : decide ((400 : Int) < (d : Int)) = false := decide_eq_false (by omega)
  replace e1 : IntKind.i64.wrap (s - s') = (d : Int) := e1.trans hd.symm
  have hnb : (neg == neg') = false := beq_eq_false_iff_ne.2 hn
  have hle3 : True := trivial
  generalize (manX hi lo * 2 ^ d - manX hi' lo') = NN at *
  generalize manX hi lo * 2 ^ d = A at *
  generalize manX hi lo = M at *
  generalize manX hi' lo' = M2 at *
  clear hform hbl hbl1 hNb hA1 hSA hS0 hTM hTM' hM hM' h h' hs hs' hle hf hd hd4 hle3 hn hc
  unfold exV at *
  refine cps fun Q hQ => ?_
  go_enter Try.func24, Try.ntmps24
  go_wp2_with (first
    | (go_at_call_of 44 hi; go_must (refine (k1 _).mono ?_); rintro e w1 ⟨v1, rfl, hr1, hb1⟩; have R1_0 := (hb1.block (w.heap.size) (by first | (simp; done) | (simp; omega) | omega)).trans ((Below.heap_alloc _ _ _ (by first | (simp; done) | (simp; omega) | omega)).trans ((Below.heap_alloc _ _ _ (by first | (simp; done) | (simp; omega) | omega)).trans (rownew' _ _ _ _ (by simp)))); have z1_0 : w.heap.size < w1.heap.size := Nat.lt_of_lt_of_le (by first | (simp; done) | (simp; omega) | omega) hb1.size; have HR1_0 : Hid _ := R1_0; clear R1_0; have R1_1 := (hb1.block (w.heap.size + 1) (by first | (simp; done) | (simp; omega) | omega)).trans ((Below.heap_alloc _ _ _ (by first | (simp; done) | (simp; omega) | omega)).trans (rownew' _ _ _ _ (by simp))); have z1_1 : w.heap.size + 1 < w1.heap.size := Nat.lt_of_lt_of_le (by first | (simp; done) | (simp; omega) | omega) hb1.size; have c1_1_3 := rowcell R1_1 3; have c1_1_4 := rowcell R1_1 4; simp only [List.getElem?_toArray, List.getElem?_cons_zero, List.getElem?_cons_succ] at c1_1_3 c1_1_4; have HR1_1 : Hid _ := R1_1; clear R1_1; have R1_2 := (hb1.block (w.heap.size + 1 + 1) (by first | (simp; done) | (simp; omega) | omega)).trans (rownew' _ _ _ _ (by simp)); have z1_2 : w.heap.size + 1 + 1 < w1.heap.size := Nat.lt_of_lt_of_le (by first | (simp; done) | (simp; omega) | omega) hb1.size; have HR1_2 : Hid _ := R1_2; clear R1_2; have HB1 : Hid (Below _ _ _) := hb1; clear hb1; have HV1 : Hid (Row w1 v1 (dig M)) := hr1; clear hr1)
    | (go_at_call_of 44 hi'; go_must (refine (k2 _).mono ?_); rintro e w2 ⟨v2, rfl, hr2, hb2⟩; have R2_0 := (hb2.block (w.heap.size) (by first | (simp; done) | (simp; omega) | omega)).trans HR1_0.out; have z2_0 : w.heap.size < w2.heap.size := Nat.lt_of_lt_of_le (by first | (simp; done) | (simp; omega) | omega) hb2.size; have c2_0_2 := rowcell R2_0 2; simp only [List.getElem?_toArray, List.getElem?_cons_zero, List.getElem?_cons_succ] at c2_0_2; have HR2_0 : Hid _ := R2_0; clear R2_0; have R2_1 := (hb2.block (w.heap.size + 1) (by first | (simp; done) | (simp; omega) | omega)).trans HR1_1.out; have z2_1 : w.heap.size + 1 < w2.heap.size := Nat.lt_of_lt_of_le (by first | (simp; done) | (simp; omega) | omega) hb2.size; have c2_1_2 := rowcell R2_1 2; simp only [List.getElem?_toArray, List.getElem?_cons_zero, List.getElem?_cons_succ] at c2_1_2; have HR2_1 : Hid _ := R2_1; clear R2_1; have R2_2 := (hb2.block (w.heap.size + 1 + 1) (by first | (simp; done) | (simp; omega) | omega)).trans HR1_2.out; have z2_2 : w.heap.size + 1 + 1 < w2.heap.size := Nat.lt_of_lt_of_le (by first | (simp; done) | (simp; omega) | omega) hb2.size; have HR2_2 : Hid _ := R2_2; clear R2_2; have HB2 : Hid (Below _ _ _) := hb2; clear hb2; have HV2 : Hid (Row w2 v2 (dig M2)) := hr2; have HW1 : Hid (Row w2 v1 (dig M)) := HV1.out.below HB2.out; clear hr2)
    | (go_at_call 45; go_must (refine (k3 _ _ HW1.out).mono ?_); rintro e w3 ⟨v3, rfl, hr3, hb3⟩; have R3_0 := (hb3.block (w.heap.size) (by first | (simp; done) | (simp; omega) | omega)).trans HR2_0.out; have z3_0 : w.heap.size < w3.heap.size := Nat.lt_of_lt_of_le (by first | (simp; done) | (simp; omega) | omega) hb3.size; have c3_0_2 := rowcell R3_0 2; have c3_0_1 := rowcell R3_0 1; simp only [List.getElem?_toArray, List.getElem?_cons_zero, List.getElem?_cons_succ] at c3_0_2 c3_0_1; have HR3_0 : Hid _ := R3_0; clear R3_0; have R3_1 := (hb3.block (w.heap.size + 1) (by first | (simp; done) | (simp; omega) | omega)).trans HR2_1.out; have z3_1 : w.heap.size + 1 < w3.heap.size := Nat.lt_of_lt_of_le (by first | (simp; done) | (simp; omega) | omega) hb3.size; have c3_1_1 := rowcell R3_1 1; simp only [List.getElem?_toArray, List.getElem?_cons_zero, List.getElem?_cons_succ] at c3_1_1; have HR3_1 : Hid _ := R3_1; clear R3_1; have R3_2 := (hb3.block (w.heap.size + 1 + 1) (by first | (simp; done) | (simp; omega) | omega)).trans HR2_2.out; have z3_2 : w.heap.size + 1 + 1 < w3.heap.size := Nat.lt_of_lt_of_le (by first | (simp; done) | (simp; omega) | omega) hb3.size; have HR3_2 : Hid _ := R3_2; clear R3_2; have HB3 : Hid (Below _ _ _) := hb3; clear hb3; have HV3 : Hid (Row w3 v3 (dig A)) := hr3; have HW2 : Hid (Row w3 v2 (dig M2)) := HV2.out.below HB3.out; clear hr3)
    | (go_at_call 48; go_must (refine (k4 _ _ _ HV3.out HW2.out).mono ?_); rintro e wx ⟨rfl, q, rfl⟩))
  have bq : Below w3.heap.size w3 (w3.drewN q) := below_drewN (Below.refl _ _) q
  have cls : ∀ W, Below w3.heap.size w3 W → W.cell? ⟨w.heap.size, 1, none⟩ = some (.bool neg) := fun W hW => (hW.cell (p := ⟨w.heap.size, 1, none⟩) z3_0).trans c3_0_1
  refine wpC_region (fun W => W.cell? ⟨w.heap.size, 1, none⟩ = some (.bool neg)) (by kernel_rfl) ?_
  refine wpC_take 0 (v := ?_) rfl (by kernel_rfl) (fun _ _ _ h => h) (by kernel_rfl) ?_ ?_; rotate_left; · (intro wC hC; obtain c1 := hC; go_simp <;> with_reducible rfl)
  refine wpC_take 1 (v := ?_) rfl (by kernel_rfl) (fun _ _ _ h => h) (by kernel_rfl) ?_ ?_; rotate_left; · (intro wC hC; obtain c1 := hC; go_simp <;> with_reducible rfl)
  refine wpC_take 2 (v := ?_) rfl (by kernel_rfl) (fun _ _ _ h => h) (by kernel_rfl) ?_ ?_; rotate_left; · (intro wC hC; obtain c1 := hC; go_simp <;> with_reducible rfl)
  refine wpC_take 3 (v := ?_) rfl (by kernel_rfl) (fun _ _ _ h => h) (by kernel_rfl) ?_ ?_; rotate_left; · (intro wC hC; obtain c1 := hC; go_simp <;> with_reducible rfl)
  refine wpC_take 5 (v := ?_) rfl (by kernel_rfl) (fun _ _ _ h => h) (by kernel_rfl) ?_ ?_; rotate_left; · (intro wC hC; obtain c1 := hC; go_simp <;> with_reducible rfl)
  refine wpC_step 4 rfl (by kernel_rfl) (by kernel_rfl) (cls _ (cdrew bq)) (fun K hK => ?_)
  go_simp
  go_wp2_with ((go_at_call 49; go_must (refine (k5 _ _ _ (HV3.out.below (cdrew bq)) (HW2.out.below (cdrew bq))).mono ?_); rintro e w4 ⟨v4, rfl, hr4, hb4⟩))
  try (refine hK _ _ ?_; clear hK K)
  have b4 : Below w3.heap.size w3 w4 := cthen (cdrew bq) hb4
  refine wpC_step 6 rfl (by kernel_rfl) (by kernel_rfl) (cls _ b4) (fun K hK => ?_)
  go_simp
  go_wp2_with ((go_at_call 46; go_must (refine (k6 _ _ hr4).mono ?_); rintro e w5 ⟨rfl, hb5⟩))
  try (refine hK _ _ ?_; clear hK K)
  have b5 : Below w3.heap.size w3 w5 := cthen b4 hb5
  have RR := (b5.block (w.heap.size + 1 + 1) z3_2).trans HR3_2.out
  have r0 := rowcell RR 0
  have r1 := rowcell RR 1
  have r2 := rowcell RR 2
  have r3 := rowcell RR 3
  have r4 := rowcell RR 4
  have r5 := rowcell RR 5
  have rf := rowfree RR
  simp only [List.getElem?_toArray, List.getElem?_cons_zero, List.getElem?_cons_succ] at r0 r1 r2 r3 r4 r5
  refine wpC_step 7 rfl (by kernel_rfl) (by kernel_rfl) (cls _ b5) (fun K hK => ?_)
  go_simp
  try (refine hK _ _ ?_; clear hK K)
  refine wpC_done (by kernel_rfl) (by simp [go_sem, cls _ b5]) ?_
  go_wp2
  refine bodyPost_ret (v := .agg #[.int .i64 K, .bool B, .int .i64 S, .int .u64 H, .int .u64 L, .bool R]) (by simp [results, Try.results24, go_sem, r0, r1, r2, r3, r4, r5]) rfl (hQ.out _ _ ⟨by simp, ?_⟩)
  exact cset6 (cthen (cthen (cthen (cthen (cmore (cmore (cmore (Below.refl _ _) _) _) _) HB1.out) HB2.out) HB3.out) b5) (by omega)
set_option maxHeartbeats 4000000 in
theorem sum9_near_bus (neg : Bool) (s : Int) (hi lo : Nat) (neg' : Bool) (s' : Int) (hi' lo' : Nat) (h : WordsX hi lo) (h' : WordsX hi' lo') (hs : -1099511627776 ≤ s ∧ s ≤ 1099511627776) (hs' : -1099511627776 ≤ s' ∧ s' ≤ 1099511627776) (hle : s' ≤ s) (hf : ¬ 400 < s - s') (hn : neg ≠ neg') (d : Nat) (hd : (d : Int) = s - s') (hc : ¬ manX hi' lo' ≤ manX hi lo * 2 ^ d) (w : World) :
    Calls Try.prog 24 #[exV 1 neg s hi lo false, exV 1 neg' s' hi' lo' false] w fun e w' => e = .returned (exactV neg' (manX hi' lo' - manX hi lo * 2 ^ d) (s - 127 - d) false) ∧ Below w.heap.size w w' := by
  have hM := h.mant
  have hM' := h'.mant
  have hd4 : d ≤ 400 := by omega
  have hbl := @mul_blen (manX hi lo) d (manX hi' lo') hM.2 hM'.2 hd4
  have hbl1 := @mul_blen (manX hi lo) d 1 hM.2 (by decide) hd4
  have hTM : Tw (manX hi lo) hi lo := ⟨rfl, by have := h.hi64; omega, by have := h.lo64; omega⟩
  have hTM' : Tw (manX hi' lo') hi' lo' := ⟨rfl, by have := h'.hi64; omega, by have := h'.lo64; omega⟩
  have hA1 : blen (manX hi lo * 2 ^ d) ≤ 1000 := Nat.le_trans (blen_mono (Nat.le_add_right _ _)) hbl
  have hS0 := dlen_mant hM.2
  have hSA := dlen_of_blen (Nat.le_trans hA1 (by decide : 1000 ≤ 1099511627776))
  have k1 := fun w => rof_any hTM w
  have k2 := fun w => rof_any hTM' w
  have k3 := fun v w hr => nshl_anyq v (manX hi lo) d (by omega) hS0 w hr
  have hNb : blen (manX hi' lo' - manX hi lo * 2 ^ d) ≤ 1000 := Nat.le_trans (blen_mono (Nat.le_trans (Nat.sub_le _ _) (Nat.le_add_left _ (manX hi lo * 2 ^ d)))) hbl
  have k4 := fun va vb w ha hb => ncmp_anyq va vb (manX hi lo * 2 ^ d) (manX hi' lo') w ha hb
  have hcm : decide ((0 : Int) ≤ cmpN (manX hi lo * 2 ^ d) (manX hi' lo')) = false := decide_eq_false (by rw [cmpN_lt (by omega)]; decide)
  have k5 := fun va vb w ha hb => nsub_anyq va vb (manX hi' lo') (manX hi lo * 2 ^ d) (by omega) (dlen_of_blen (Nat.le_trans (blen_mono (Nat.le_add_left _ (manX hi lo * 2 ^ d))) (Nat.le_trans hbl (by decide : 1000 ≤ 1099511627776)))) w ha hb
  have k6 := fun v w hr => exactly7_any neg' v (manX hi' lo' - manX hi lo * 2 ^ d) (s - 127 - d) false (Nat.le_trans hNb (by decide)) (by omega) w hr
  obtain ⟨K, B, S, H, L, R, hform⟩ := exactV_form neg' (manX hi' lo' - manX hi lo * 2 ^ d) (s - 127 - d) false
  rw [hform] at k6 ⊢
  have e1 : IntKind.i64.wrap (s - s') = s - s' := wrapI (by omega)
  have g0 : decide (s < s') = false := decide_eq_false (by omega)
  have e2 : IntKind.i64.wrap (s - 127) = s - 127 := wrapI (by omega)
  have e3 : IntKind.i64.wrap (s - 127 - (d : Int)) = s - 127 - (d : Int) := wrapI (by omega)
  have g1 : decide ((400 : Int) < (d : Int)) = false := decide_eq_false (by omega)
  replace e1 : IntKind.i64.wrap (s - s') = (d : Int) := e1.trans hd.symm
  have hnb : (neg == neg') = false := beq_eq_false_iff_ne.2 hn
  have hle3 : True := trivial
  generalize (manX hi' lo' - manX hi lo * 2 ^ d) = NN at *
  generalize manX hi lo * 2 ^ d = A at *
  generalize manX hi lo = M at *
  generalize manX hi' lo' = M2 at *
  clear hform hbl hbl1 hNb hA1 hSA hS0 hTM hTM' hM hM' h h' hs hs' hle hf hd hd4 hle3 hn hc
  unfold exV at *
  refine cps fun Q hQ => ?_
  go_enter Try.func24, Try.ntmps24
  go_wp2_with (first
    | (go_at_call_of 44 hi; go_must (refine (k1 _).mono ?_); rintro e w1 ⟨v1, rfl, hr1, hb1⟩; have R1_0 := (hb1.block (w.heap.size) (by first | (simp; done) | (simp; omega) | omega)).trans ((Below.heap_alloc _ _ _ (by first | (simp; done) | (simp; omega) | omega)).trans ((Below.heap_alloc _ _ _ (by first | (simp; done) | (simp; omega) | omega)).trans (rownew' _ _ _ _ (by simp)))); have z1_0 : w.heap.size < w1.heap.size := Nat.lt_of_lt_of_le (by first | (simp; done) | (simp; omega) | omega) hb1.size; have HR1_0 : Hid _ := R1_0; clear R1_0; have R1_1 := (hb1.block (w.heap.size + 1) (by first | (simp; done) | (simp; omega) | omega)).trans ((Below.heap_alloc _ _ _ (by first | (simp; done) | (simp; omega) | omega)).trans (rownew' _ _ _ _ (by simp))); have z1_1 : w.heap.size + 1 < w1.heap.size := Nat.lt_of_lt_of_le (by first | (simp; done) | (simp; omega) | omega) hb1.size; have c1_1_3 := rowcell R1_1 3; have c1_1_4 := rowcell R1_1 4; simp only [List.getElem?_toArray, List.getElem?_cons_zero, List.getElem?_cons_succ] at c1_1_3 c1_1_4; have HR1_1 : Hid _ := R1_1; clear R1_1; have R1_2 := (hb1.block (w.heap.size + 1 + 1) (by first | (simp; done) | (simp; omega) | omega)).trans (rownew' _ _ _ _ (by simp)); have z1_2 : w.heap.size + 1 + 1 < w1.heap.size := Nat.lt_of_lt_of_le (by first | (simp; done) | (simp; omega) | omega) hb1.size; have HR1_2 : Hid _ := R1_2; clear R1_2; have HB1 : Hid (Below _ _ _) := hb1; clear hb1; have HV1 : Hid (Row w1 v1 (dig M)) := hr1; clear hr1)
    | (go_at_call_of 44 hi'; go_must (refine (k2 _).mono ?_); rintro e w2 ⟨v2, rfl, hr2, hb2⟩; have R2_0 := (hb2.block (w.heap.size) (by first | (simp; done) | (simp; omega) | omega)).trans HR1_0.out; have z2_0 : w.heap.size < w2.heap.size := Nat.lt_of_lt_of_le (by first | (simp; done) | (simp; omega) | omega) hb2.size; have c2_0_2 := rowcell R2_0 2; simp only [List.getElem?_toArray, List.getElem?_cons_zero, List.getElem?_cons_succ] at c2_0_2; have HR2_0 : Hid _ := R2_0; clear R2_0; have R2_1 := (hb2.block (w.heap.size + 1) (by first | (simp; done) | (simp; omega) | omega)).trans HR1_1.out; have z2_1 : w.heap.size + 1 < w2.heap.size := Nat.lt_of_lt_of_le (by first | (simp; done) | (simp; omega) | omega) hb2.size; have c2_1_2 := rowcell R2_1 2; simp only [List.getElem?_toArray, List.getElem?_cons_zero, List.getElem?_cons_succ] at c2_1_2; have HR2_1 : Hid _ := R2_1; clear R2_1; have R2_2 := (hb2.block (w.heap.size + 1 + 1) (by first | (simp; done) | (simp; omega) | omega)).trans HR1_2.out; have z2_2 : w.heap.size + 1 + 1 < w2.heap.size := Nat.lt_of_lt_of_le (by first | (simp; done) | (simp; omega) | omega) hb2.size; have HR2_2 : Hid _ := R2_2; clear R2_2; have HB2 : Hid (Below _ _ _) := hb2; clear hb2; have HV2 : Hid (Row w2 v2 (dig M2)) := hr2; have HW1 : Hid (Row w2 v1 (dig M)) := HV1.out.below HB2.out; clear hr2)
    | (go_at_call 45; go_must (refine (k3 _ _ HW1.out).mono ?_); rintro e w3 ⟨v3, rfl, hr3, hb3⟩; have R3_0 := (hb3.block (w.heap.size) (by first | (simp; done) | (simp; omega) | omega)).trans HR2_0.out; have z3_0 : w.heap.size < w3.heap.size := Nat.lt_of_lt_of_le (by first | (simp; done) | (simp; omega) | omega) hb3.size; have c3_0_2 := rowcell R3_0 2; have c3_0_1 := rowcell R3_0 1; simp only [List.getElem?_toArray, List.getElem?_cons_zero, List.getElem?_cons_succ] at c3_0_2 c3_0_1; have HR3_0 : Hid _ := R3_0; clear R3_0; have R3_1 := (hb3.block (w.heap.size + 1) (by first | (simp; done) | (simp; omega) | omega)).trans HR2_1.out; have z3_1 : w.heap.size + 1 < w3.heap.size := Nat.lt_of_lt_of_le (by first | (simp; done) | (simp; omega) | omega) hb3.size; have c3_1_1 := rowcell R3_1 1; simp only [List.getElem?_toArray, List.getElem?_cons_zero, List.getElem?_cons_succ] at c3_1_1; have HR3_1 : Hid _ := R3_1; clear R3_1; have R3_2 := (hb3.block (w.heap.size + 1 + 1) (by first | (simp; done) | (simp; omega) | omega)).trans HR2_2.out; have z3_2 : w.heap.size + 1 + 1 < w3.heap.size := Nat.lt_of_lt_of_le (by first | (simp; done) | (simp; omega) | omega) hb3.size; have HR3_2 : Hid _ := R3_2; clear R3_2; have HB3 : Hid (Below _ _ _) := hb3; clear hb3; have HV3 : Hid (Row w3 v3 (dig A)) := hr3; have HW2 : Hid (Row w3 v2 (dig M2)) := HV2.out.below HB3.out; clear hr3)
    | (go_at_call 48; go_must (refine (k4 _ _ _ HV3.out HW2.out).mono ?_); rintro e wx ⟨rfl, q, rfl⟩))
  have bq : Below w3.heap.size w3 (w3.drewN q) := below_drewN (Below.refl _ _) q
  have cls : ∀ W, Below w3.heap.size w3 W → W.cell? ⟨w.heap.size + 1, 1, none⟩ = some (.bool neg') := fun W hW => (hW.cell (p := ⟨w.heap.size + 1, 1, none⟩) z3_1).trans c3_1_1
  refine wpC_region (fun W => W.cell? ⟨w.heap.size + 1, 1, none⟩ = some (.bool neg')) (by kernel_rfl) ?_
  refine wpC_take 0 (v := ?_) rfl (by kernel_rfl) (fun _ _ _ h => h) (by kernel_rfl) ?_ ?_; rotate_left; · (intro wC hC; obtain c1 := hC; go_simp <;> with_reducible rfl)
  refine wpC_take 1 (v := ?_) rfl (by kernel_rfl) (fun _ _ _ h => h) (by kernel_rfl) ?_ ?_; rotate_left; · (intro wC hC; obtain c1 := hC; go_simp <;> with_reducible rfl)
  refine wpC_take 2 (v := ?_) rfl (by kernel_rfl) (fun _ _ _ h => h) (by kernel_rfl) ?_ ?_; rotate_left; · (intro wC hC; obtain c1 := hC; go_simp <;> with_reducible rfl)
  refine wpC_take 3 (v := ?_) rfl (by kernel_rfl) (fun _ _ _ h => h) (by kernel_rfl) ?_ ?_; rotate_left; · (intro wC hC; obtain c1 := hC; go_simp <;> with_reducible rfl)
  refine wpC_take 5 (v := ?_) rfl (by kernel_rfl) (fun _ _ _ h => h) (by kernel_rfl) ?_ ?_; rotate_left; · (intro wC hC; obtain c1 := hC; go_simp <;> with_reducible rfl)
  refine wpC_step 4 rfl (by kernel_rfl) (by kernel_rfl) (cls _ (cdrew bq)) (fun K hK => ?_)
  go_simp
  go_wp2_with ((go_at_call 49; go_must (refine (k5 _ _ _ (HW2.out.below (cdrew bq)) (HV3.out.below (cdrew bq))).mono ?_); rintro e w4 ⟨v4, rfl, hr4, hb4⟩))
  try (refine hK _ _ ?_; clear hK K)
  have b4 : Below w3.heap.size w3 w4 := cthen (cdrew bq) hb4
  refine wpC_step 6 rfl (by kernel_rfl) (by kernel_rfl) (cls _ b4) (fun K hK => ?_)
  go_simp
  go_wp2_with ((go_at_call 46; go_must (refine (k6 _ _ hr4).mono ?_); rintro e w5 ⟨rfl, hb5⟩))
  try (refine hK _ _ ?_; clear hK K)
  have b5 : Below w3.heap.size w3 w5 := cthen b4 hb5
  have RR := (b5.block (w.heap.size + 1 + 1) z3_2).trans HR3_2.out
  have r0 := rowcell RR 0
  have r1 := rowcell RR 1
  have r2 := rowcell RR 2
  have r3 := rowcell RR 3
  have r4 := rowcell RR 4
  have r5 := rowcell RR 5
  have rf := rowfree RR
  simp only [List.getElem?_toArray, List.getElem?_cons_zero, List.getElem?_cons_succ] at r0 r1 r2 r3 r4 r5
  refine wpC_step 7 rfl (by kernel_rfl) (by kernel_rfl) (cls _ b5) (fun K hK => ?_)
  go_simp
  try (refine hK _ _ ?_; clear hK K)
  refine wpC_done (by kernel_rfl) (by simp [go_sem, cls _ b5]) ?_
  go_wp2
  refine bodyPost_ret (v := .agg #[.int .i64 K, .bool B, .int .i64 S, .int .u64 H, .int .u64 L, .bool R]) (by simp [results, Try.results24, go_sem, r0, r1, r2, r3, r4, r5]) rfl (hQ.out _ _ ⟨by simp, ?_⟩)
  exact cset6 (cthen (cthen (cthen (cthen (cmore (cmore (cmore (Below.refl _ _) _) _) _) HB1.out) HB2.out) HB3.out) b5) (by omega)
set_option maxHeartbeats 4000000 in
theorem sum9_far_add (neg : Bool) (s : Int) (hi lo : Nat) (neg' : Bool) (s' : Int) (hi' lo' : Nat) (h : WordsX hi lo) (h' : WordsX hi' lo') (hs : -1099511627776 ≤ s ∧ s ≤ 1099511627776) (hs' : -1099511627776 ≤ s' ∧ s' ≤ 1099511627776) (hle : s' ≤ s) (hf : 400 < s - s') (hn : neg = neg') (d : Nat) (hd : d = 400) (w : World) :
    Calls Try.prog 24 #[exV 1 neg s hi lo false, exV 1 neg' s' hi' lo' false] w fun e w' => e = .returned (exactV neg (manX hi lo * 2 ^ d + 1) (s - 127 - d) false) ∧ Below w.heap.size w w' := by
  have hM := h.mant
  have hM' := h'.mant
  have hd4 : d ≤ 400 := by omega
  have hbl := @mul_blen (manX hi lo) d (manX hi' lo') hM.2 hM'.2 hd4
  have hbl1 := @mul_blen (manX hi lo) d 1 hM.2 (by decide) hd4
  have hTM : Tw (manX hi lo) hi lo := ⟨rfl, by have := h.hi64; omega, by have := h.lo64; omega⟩
  have hTM' : Tw (manX hi' lo') hi' lo' := ⟨rfl, by have := h'.hi64; omega, by have := h'.lo64; omega⟩
  have hA1 : blen (manX hi lo * 2 ^ d) ≤ 1000 := Nat.le_trans (blen_mono (Nat.le_add_right _ _)) hbl
  have hS0 := dlen_mant hM.2
  have hSA := dlen_of_blen (Nat.le_trans hA1 (by decide : 1000 ≤ 1099511627776))
  have k1 := fun w => rof_any hTM w
  have k2 := fun w => rof_any hTM' w
  have k3 := fun v w hr => nshl_anyq v (manX hi lo) d (by omega) hS0 w hr
  have hNb : blen (manX hi lo * 2 ^ d + 1) ≤ 1000 := hbl1
  have k5 := fun va vb w ha hb => nadd_anyq va vb (manX hi lo * 2 ^ d) (1) (dlen_of_blen (Nat.le_trans hNb (by decide : 1000 ≤ 1099511627776))) w ha hb
  have k6 := fun v w hr => exactly7_any neg v (manX hi lo * 2 ^ d + 1) (s - 127 - d) false (Nat.le_trans hNb (by decide)) (by omega) w hr
  obtain ⟨K, B, S, H, L, R, hform⟩ := exactV_form neg (manX hi lo * 2 ^ d + 1) (s - 127 - d) false
  rw [hform] at k6 ⊢
  have e1 : IntKind.i64.wrap (s - s') = s - s' := wrapI (by omega)
  have g0 : decide (s < s') = false := decide_eq_false (by omega)
  have e2 : IntKind.i64.wrap (s - 127) = s - 127 := wrapI (by omega)
  have e3 : IntKind.i64.wrap (s - 127 - (d : Int)) = s - 127 - (d : Int) := wrapI (by omega)
  have g1 : decide ((400 : Int) < s - s') = true := decide_eq_true hf
  rw [show (d : Int) = 400 by rw [hd]; rfl] at *
  subst hn
  have hle3 : True := trivial
  generalize (manX hi lo * 2 ^ d + 1) = NN at *
  generalize manX hi lo * 2 ^ d = A at *
  generalize manX hi lo = M at *
  generalize manX hi' lo' = M2 at *
  clear hform hbl hbl1 hNb hA1 hSA hS0 hTM hTM' hM hM' h h' hs hs' hle hf hd hd4 hle3
  unfold exV at *
  refine cps fun Q hQ => ?_
  go_enter Try.func24, Try.ntmps24
  go_wp2_with (first
    | (go_at_call_of 44 hi; go_must (refine (k1 _).mono ?_); rintro e w1 ⟨v1, rfl, hr1, hb1⟩; have R1_0 := (hb1.block (w.heap.size) (by first | (simp; done) | (simp; omega) | omega)).trans ((Below.heap_alloc _ _ _ (by first | (simp; done) | (simp; omega) | omega)).trans ((Below.heap_alloc _ _ _ (by first | (simp; done) | (simp; omega) | omega)).trans (rownew' _ _ _ _ (by simp)))); have z1_0 : w.heap.size < w1.heap.size := Nat.lt_of_lt_of_le (by first | (simp; done) | (simp; omega) | omega) hb1.size; have HR1_0 : Hid _ := R1_0; clear R1_0; have R1_1 := (hb1.block (w.heap.size + 1) (by first | (simp; done) | (simp; omega) | omega)).trans ((Below.heap_alloc _ _ _ (by first | (simp; done) | (simp; omega) | omega)).trans (rownew' _ _ _ _ (by simp))); have z1_1 : w.heap.size + 1 < w1.heap.size := Nat.lt_of_lt_of_le (by first | (simp; done) | (simp; omega) | omega) hb1.size; have c1_1_3 := rowcell R1_1 3; have c1_1_4 := rowcell R1_1 4; simp only [List.getElem?_toArray, List.getElem?_cons_zero, List.getElem?_cons_succ] at c1_1_3 c1_1_4; have HR1_1 : Hid _ := R1_1; clear R1_1; have R1_2 := (hb1.block (w.heap.size + 1 + 1) (by first | (simp; done) | (simp; omega) | omega)).trans (rownew' _ _ _ _ (by simp)); have z1_2 : w.heap.size + 1 + 1 < w1.heap.size := Nat.lt_of_lt_of_le (by first | (simp; done) | (simp; omega) | omega) hb1.size; have HR1_2 : Hid _ := R1_2; clear R1_2; have HB1 : Hid (Below _ _ _) := hb1; clear hb1; have HV1 : Hid (Row w1 v1 (dig M)) := hr1; clear hr1)
    | (go_at_call_of 44 hi'; go_must (refine (k2 _).mono ?_); rintro e w2 ⟨v2, rfl, hr2, hb2⟩; have R2_0 := (hb2.block (w.heap.size) (by first | (simp; done) | (simp; omega) | omega)).trans HR1_0.out; have z2_0 : w.heap.size < w2.heap.size := Nat.lt_of_lt_of_le (by first | (simp; done) | (simp; omega) | omega) hb2.size; have c2_0_2 := rowcell R2_0 2; simp only [List.getElem?_toArray, List.getElem?_cons_zero, List.getElem?_cons_succ] at c2_0_2; have HR2_0 : Hid _ := R2_0; clear R2_0; have R2_1 := (hb2.block (w.heap.size + 1) (by first | (simp; done) | (simp; omega) | omega)).trans HR1_1.out; have z2_1 : w.heap.size + 1 < w2.heap.size := Nat.lt_of_lt_of_le (by first | (simp; done) | (simp; omega) | omega) hb2.size; have c2_1_2 := rowcell R2_1 2; simp only [List.getElem?_toArray, List.getElem?_cons_zero, List.getElem?_cons_succ] at c2_1_2; have HR2_1 : Hid _ := R2_1; clear R2_1; have R2_2 := (hb2.block (w.heap.size + 1 + 1) (by first | (simp; done) | (simp; omega) | omega)).trans HR1_2.out; have z2_2 : w.heap.size + 1 + 1 < w2.heap.size := Nat.lt_of_lt_of_le (by first | (simp; done) | (simp; omega) | omega) hb2.size; have HR2_2 : Hid _ := R2_2; clear R2_2; have HB2 : Hid (Below _ _ _) := hb2; clear hb2; have HV2 : Hid (Row w2 v2 (dig M2)) := hr2; have HW1 : Hid (Row w2 v1 (dig M)) := HV1.out.below HB2.out; clear hr2)
    | (go_at_call 45; go_must (refine (k3 _ _ (HW1.out.below (cmore (Below.refl _ _) _))).mono ?_); rintro e w3 ⟨v3, rfl, hr3, hb3⟩; have R3_0 := (hb3.block (w.heap.size) (by first | (simp; done) | (simp; omega) | omega)).trans ((Below.heap_alloc _ _ _ (by first | (simp; done) | (simp; omega) | omega)).trans HR2_0.out); have z3_0 : w.heap.size < w3.heap.size := Nat.lt_of_lt_of_le (by first | (simp; done) | (simp; omega) | omega) hb3.size; have c3_0_2 := rowcell R3_0 2; have c3_0_1 := rowcell R3_0 1; simp only [List.getElem?_toArray, List.getElem?_cons_zero, List.getElem?_cons_succ] at c3_0_2 c3_0_1; have HR3_0 : Hid _ := R3_0; clear R3_0; have R3_1 := (hb3.block (w.heap.size + 1) (by first | (simp; done) | (simp; omega) | omega)).trans ((Below.heap_alloc _ _ _ (by first | (simp; done) | (simp; omega) | omega)).trans HR2_1.out); have z3_1 : w.heap.size + 1 < w3.heap.size := Nat.lt_of_lt_of_le (by first | (simp; done) | (simp; omega) | omega) hb3.size; have c3_1_1 := rowcell R3_1 1; simp only [List.getElem?_toArray, List.getElem?_cons_zero, List.getElem?_cons_succ] at c3_1_1; have HR3_1 : Hid _ := R3_1; clear R3_1; have R3_2 := (hb3.block (w.heap.size + 1 + 1) (by first | (simp; done) | (simp; omega) | omega)).trans ((Below.heap_alloc _ _ _ (by first | (simp; done) | (simp; omega) | omega)).trans HR2_2.out); have z3_2 : w.heap.size + 1 + 1 < w3.heap.size := Nat.lt_of_lt_of_le (by first | (simp; done) | (simp; omega) | omega) hb3.size; have HR3_2 : Hid _ := R3_2; clear R3_2; have R3_3 := (hb3.block (w2.heap.size) (by first | (simp; done) | (simp; omega) | omega)).trans (rownew' _ _ _ _ (by simp)); have z3_3 : w2.heap.size < w3.heap.size := Nat.lt_of_lt_of_le (by first | (simp; done) | (simp; omega) | omega) hb3.size; have HR3_3 : Hid _ := R3_3; clear R3_3; have HB3 : Hid (Below _ _ _) := hb3; clear hb3; have HV3 : Hid (Row w3 v3 (dig A)) := hr3; have HW2 : Hid (Row w3 _ (dig 1)) := (row_lit w2 3 1 (by decide) (by decide)).below HB3.out; clear hr3))
  have bq : Below w3.heap.size w3 w3 := Below.refl _ _
  have cls : ∀ W, Below w3.heap.size w3 W → W.cell? ⟨w.heap.size, 1, none⟩ = some (.bool neg) := fun W hW => (hW.cell (p := ⟨w.heap.size, 1, none⟩) z3_0).trans c3_0_1
  refine wpC_region (fun W => W.cell? ⟨w.heap.size, 1, none⟩ = some (.bool neg)) (by kernel_rfl) ?_
  refine wpC_take 0 (v := ?_) rfl (by kernel_rfl) (fun _ _ _ h => h) (by kernel_rfl) ?_ ?_; rotate_left; · (intro wC hC; obtain c1 := hC; go_simp <;> with_reducible rfl)
  refine wpC_take 1 (v := ?_) rfl (by kernel_rfl) (fun _ _ _ h => h) (by kernel_rfl) ?_ ?_; rotate_left; · (intro wC hC; obtain c1 := hC; go_simp <;> with_reducible rfl)
  refine wpC_take 2 (v := ?_) rfl (by kernel_rfl) (fun _ _ _ h => h) (by kernel_rfl) ?_ ?_; rotate_left; · (intro wC hC; obtain c1 := hC; go_simp <;> with_reducible rfl)
  refine wpC_take 3 (v := ?_) rfl (by kernel_rfl) (fun _ _ _ h => h) (by kernel_rfl) ?_ ?_; rotate_left; · (intro wC hC; obtain c1 := hC; go_simp <;> with_reducible rfl)
  refine wpC_take 5 (v := ?_) rfl (by kernel_rfl) (fun _ _ _ h => h) (by kernel_rfl) ?_ ?_; rotate_left; · (intro wC hC; obtain c1 := hC; go_simp <;> with_reducible rfl)
  refine wpC_step 4 rfl (by kernel_rfl) (by kernel_rfl) (cls _ (cdrew bq)) (fun K hK => ?_)
  go_simp
  go_wp2_with ((go_at_call 47; go_must (refine (k5 _ _ _ (HV3.out.below (cdrew bq)) (HW2.out.below (cdrew bq))).mono ?_); rintro e w4 ⟨v4, rfl, hr4, hb4⟩))
  try (refine hK _ _ ?_; clear hK K)
  have b4 : Below w3.heap.size w3 w4 := cthen (cdrew bq) hb4
  refine wpC_step 6 rfl (by kernel_rfl) (by kernel_rfl) (cls _ b4) (fun K hK => ?_)
  go_simp
  go_wp2_with ((go_at_call 46; go_must (refine (k6 _ _ hr4).mono ?_); rintro e w5 ⟨rfl, hb5⟩))
  try (refine hK _ _ ?_; clear hK K)
  have b5 : Below w3.heap.size w3 w5 := cthen b4 hb5
  have RR := (b5.block (w.heap.size + 1 + 1) z3_2).trans HR3_2.out
  have r0 := rowcell RR 0
  have r1 := rowcell RR 1
  have r2 := rowcell RR 2
  have r3 := rowcell RR 3
  have r4 := rowcell RR 4
  have r5 := rowcell RR 5
  have rf := rowfree RR
  simp only [List.getElem?_toArray, List.getElem?_cons_zero, List.getElem?_cons_succ] at r0 r1 r2 r3 r4 r5
  refine wpC_step 7 rfl (by kernel_rfl) (by kernel_rfl) (cls _ b5) (fun K hK => ?_)
  go_simp
  try (refine hK _ _ ?_; clear hK K)
  refine wpC_done (by kernel_rfl) (by simp [go_sem, cls _ b5]) ?_
  go_wp2
  refine bodyPost_ret (v := .agg #[.int .i64 K, .bool B, .int .i64 S, .int .u64 H, .int .u64 L, .bool R]) (by simp [results, Try.results24, go_sem, r0, r1, r2, r3, r4, r5]) rfl (hQ.out _ _ ⟨by simp, ?_⟩)
  exact cset6 (cthen (cthen (cmore (cthen (cthen (cmore (cmore (cmore (Below.refl _ _) _) _) _) HB1.out) HB2.out) _) HB3.out) b5) (by omega)
set_option maxHeartbeats 4000000 in
theorem sum9_far_sub (neg : Bool) (s : Int) (hi lo : Nat) (neg' : Bool) (s' : Int) (hi' lo' : Nat) (h : WordsX hi lo) (h' : WordsX hi' lo') (hs : -1099511627776 ≤ s ∧ s ≤ 1099511627776) (hs' : -1099511627776 ≤ s' ∧ s' ≤ 1099511627776) (hle : s' ≤ s) (hf : 400 < s - s') (hn : neg ≠ neg') (d : Nat) (hd : d = 400) (hc : 1 ≤ manX hi lo * 2 ^ d) (w : World) :
    Calls Try.prog 24 #[exV 1 neg s hi lo false, exV 1 neg' s' hi' lo' false] w fun e w' => e = .returned (exactV neg (manX hi lo * 2 ^ d - 1) (s - 127 - d) false) ∧ Below w.heap.size w w' := by
  have hM := h.mant
  have hM' := h'.mant
  have hd4 : d ≤ 400 := by omega
  have hbl := @mul_blen (manX hi lo) d (manX hi' lo') hM.2 hM'.2 hd4
  have hbl1 := @mul_blen (manX hi lo) d 1 hM.2 (by decide) hd4
  have hTM : Tw (manX hi lo) hi lo := ⟨rfl, by have := h.hi64; omega, by have := h.lo64; omega⟩
  have hTM' : Tw (manX hi' lo') hi' lo' := ⟨rfl, by have := h'.hi64; omega, by have := h'.lo64; omega⟩
  have hA1 : blen (manX hi lo * 2 ^ d) ≤ 1000 := Nat.le_trans (blen_mono (Nat.le_add_right _ _)) hbl
  have hS0 := dlen_mant hM.2
  have hSA := dlen_of_blen (Nat.le_trans hA1 (by decide : 1000 ≤ 1099511627776))
  have k1 := fun w => rof_any hTM w
  have k2 := fun w => rof_any hTM' w
  have k3 := fun v w hr => nshl_anyq v (manX hi lo) d (by omega) hS0 w hr
  have hNb : blen (manX hi lo * 2 ^ d - 1) ≤ 1000 := Nat.le_trans (blen_mono (Nat.sub_le _ _)) hA1
  have k4 := fun va vb w ha hb => ncmp_anyq va vb (manX hi lo * 2 ^ d) (1) w ha hb
  have hcm : decide ((0 : Int) ≤ cmpN (manX hi lo * 2 ^ d) (1)) = true := cmp_ge hc
  have k5 := fun va vb w ha hb => nsub_anyq va vb (manX hi lo * 2 ^ d) (1) hc hSA w ha hb
  have k6 := fun v w hr => exactly7_any neg v (manX hi lo * 2 ^ d - 1) (s - 127 - d) false (Nat.le_trans hNb (by decide)) (by omega) w hr
  obtain ⟨K, B, S, H, L, R, hform⟩ := exactV_form neg (manX hi lo * 2 ^ d - 1) (s - 127 - d) false
  rw [hform] at k6 ⊢
  have e1 : IntKind.i64.wrap (s - s') = s - s' := wrapI (by omega)
  have g0 : decide (s < s') = false := decide_eq_false (by omega)
  have e2 : IntKind.i64.wrap (s - 127) = s - 127 := wrapI (by omega)
  have e3 : IntKind.i64.wrap (s - 127 - (d : Int)) = s - 127 - (d : Int) := wrapI (by omega)
  have g1 : decide ((400 : Int) < s - s') = true := decide_eq_true hf
  rw [show (d : Int) = 400 by rw [hd]; rfl] at *
  have hnb : (neg == neg') = false := beq_eq_false_iff_ne.2 hn
  have hle3 : True := trivial
  generalize (manX hi lo * 2 ^ d - 1) = NN at *
  generalize manX hi lo * 2 ^ d = A at *
  generalize manX hi lo = M at *
  generalize manX hi' lo' = M2 at *
  clear hform hbl hbl1 hNb hA1 hSA hS0 hTM hTM' hM hM' h h' hs hs' hle hf hd hd4 hle3 hn hc
  unfold exV at *
  refine cps fun Q hQ => ?_
  go_enter Try.func24, Try.ntmps24
  go_wp2_with (first
    | (go_at_call_of 44 hi; go_must (refine (k1 _).mono ?_); rintro e w1 ⟨v1, rfl, hr1, hb1⟩; have R1_0 := (hb1.block (w.heap.size) (by first | (simp; done) | (simp; omega) | omega)).trans ((Below.heap_alloc _ _ _ (by first | (simp; done) | (simp; omega) | omega)).trans ((Below.heap_alloc _ _ _ (by first | (simp; done) | (simp; omega) | omega)).trans (rownew' _ _ _ _ (by simp)))); have z1_0 : w.heap.size < w1.heap.size := Nat.lt_of_lt_of_le (by first | (simp; done) | (simp; omega) | omega) hb1.size; have HR1_0 : Hid _ := R1_0; clear R1_0; have R1_1 := (hb1.block (w.heap.size + 1) (by first | (simp; done) | (simp; omega) | omega)).trans ((Below.heap_alloc _ _ _ (by first | (simp; done) | (simp; omega) | omega)).trans (rownew' _ _ _ _ (by simp))); have z1_1 : w.heap.size + 1 < w1.heap.size := Nat.lt_of_lt_of_le (by first | (simp; done) | (simp; omega) | omega) hb1.size; have c1_1_3 := rowcell R1_1 3; have c1_1_4 := rowcell R1_1 4; simp only [List.getElem?_toArray, List.getElem?_cons_zero, List.getElem?_cons_succ] at c1_1_3 c1_1_4; have HR1_1 : Hid _ := R1_1; clear R1_1; have R1_2 := (hb1.block (w.heap.size + 1 + 1) (by first | (simp; done) | (simp; omega) | omega)).trans (rownew' _ _ _ _ (by simp)); have z1_2 : w.heap.size + 1 + 1 < w1.heap.size := Nat.lt_of_lt_of_le (by first | (simp; done) | (simp; omega) | omega) hb1.size; have HR1_2 : Hid _ := R1_2; clear R1_2; have HB1 : Hid (Below _ _ _) := hb1; clear hb1; have HV1 : Hid (Row w1 v1 (dig M)) := hr1; clear hr1)
    | (go_at_call_of 44 hi'; go_must (refine (k2 _).mono ?_); rintro e w2 ⟨v2, rfl, hr2, hb2⟩; have R2_0 := (hb2.block (w.heap.size) (by first | (simp; done) | (simp; omega) | omega)).trans HR1_0.out; have z2_0 : w.heap.size < w2.heap.size := Nat.lt_of_lt_of_le (by first | (simp; done) | (simp; omega) | omega) hb2.size; have c2_0_2 := rowcell R2_0 2; simp only [List.getElem?_toArray, List.getElem?_cons_zero, List.getElem?_cons_succ] at c2_0_2; have HR2_0 : Hid _ := R2_0; clear R2_0; have R2_1 := (hb2.block (w.heap.size + 1) (by first | (simp; done) | (simp; omega) | omega)).trans HR1_1.out; have z2_1 : w.heap.size + 1 < w2.heap.size := Nat.lt_of_lt_of_le (by first | (simp; done) | (simp; omega) | omega) hb2.size; have c2_1_2 := rowcell R2_1 2; simp only [List.getElem?_toArray, List.getElem?_cons_zero, List.getElem?_cons_succ] at c2_1_2; have HR2_1 : Hid _ := R2_1; clear R2_1; have R2_2 := (hb2.block (w.heap.size + 1 + 1) (by first | (simp; done) | (simp; omega) | omega)).trans HR1_2.out; have z2_2 : w.heap.size + 1 + 1 < w2.heap.size := Nat.lt_of_lt_of_le (by first | (simp; done) | (simp; omega) | omega) hb2.size; have HR2_2 : Hid _ := R2_2; clear R2_2; have HB2 : Hid (Below _ _ _) := hb2; clear hb2; have HV2 : Hid (Row w2 v2 (dig M2)) := hr2; have HW1 : Hid (Row w2 v1 (dig M)) := HV1.out.below HB2.out; clear hr2)
    | (go_at_call 45; go_must (refine (k3 _ _ (HW1.out.below (cmore (Below.refl _ _) _))).mono ?_); rintro e w3 ⟨v3, rfl, hr3, hb3⟩; have R3_0 := (hb3.block (w.heap.size) (by first | (simp; done) | (simp; omega) | omega)).trans ((Below.heap_alloc _ _ _ (by first | (simp; done) | (simp; omega) | omega)).trans HR2_0.out); have z3_0 : w.heap.size < w3.heap.size := Nat.lt_of_lt_of_le (by first | (simp; done) | (simp; omega) | omega) hb3.size; have c3_0_2 := rowcell R3_0 2; have c3_0_1 := rowcell R3_0 1; simp only [List.getElem?_toArray, List.getElem?_cons_zero, List.getElem?_cons_succ] at c3_0_2 c3_0_1; have HR3_0 : Hid _ := R3_0; clear R3_0; have R3_1 := (hb3.block (w.heap.size + 1) (by first | (simp; done) | (simp; omega) | omega)).trans ((Below.heap_alloc _ _ _ (by first | (simp; done) | (simp; omega) | omega)).trans HR2_1.out); have z3_1 : w.heap.size + 1 < w3.heap.size := Nat.lt_of_lt_of_le (by first | (simp; done) | (simp; omega) | omega) hb3.size; have c3_1_1 := rowcell R3_1 1; simp only [List.getElem?_toArray, List.getElem?_cons_zero, List.getElem?_cons_succ] at c3_1_1; have HR3_1 : Hid _ := R3_1; clear R3_1; have R3_2 := (hb3.block (w.heap.size + 1 + 1) (by first | (simp; done) | (simp; omega) | omega)).trans ((Below.heap_alloc _ _ _ (by first | (simp; done) | (simp; omega) | omega)).trans HR2_2.out); have z3_2 : w.heap.size + 1 + 1 < w3.heap.size := Nat.lt_of_lt_of_le (by first | (simp; done) | (simp; omega) | omega) hb3.size; have HR3_2 : Hid _ := R3_2; clear R3_2; have R3_3 := (hb3.block (w2.heap.size) (by first | (simp; done) | (simp; omega) | omega)).trans (rownew' _ _ _ _ (by simp)); have z3_3 : w2.heap.size < w3.heap.size := Nat.lt_of_lt_of_le (by first | (simp; done) | (simp; omega) | omega) hb3.size; have HR3_3 : Hid _ := R3_3; clear R3_3; have HB3 : Hid (Below _ _ _) := hb3; clear hb3; have HV3 : Hid (Row w3 v3 (dig A)) := hr3; have HW2 : Hid (Row w3 _ (dig 1)) := (row_lit w2 3 1 (by decide) (by decide)).below HB3.out; clear hr3)
    | (go_at_call 48; go_must (refine (k4 _ _ _ HV3.out HW2.out).mono ?_); rintro e wx ⟨rfl, q, rfl⟩))
  have bq : Below w3.heap.size w3 (w3.drewN q) := below_drewN (Below.refl _ _) q
  have cls : ∀ W, Below w3.heap.size w3 W → W.cell? ⟨w.heap.size, 1, none⟩ = some (.bool neg) := fun W hW => (hW.cell (p := ⟨w.heap.size, 1, none⟩) z3_0).trans c3_0_1
  refine wpC_region (fun W => W.cell? ⟨w.heap.size, 1, none⟩ = some (.bool neg)) (by kernel_rfl) ?_
  refine wpC_take 0 (v := ?_) rfl (by kernel_rfl) (fun _ _ _ h => h) (by kernel_rfl) ?_ ?_; rotate_left; · (intro wC hC; obtain c1 := hC; go_simp <;> with_reducible rfl)
  refine wpC_take 1 (v := ?_) rfl (by kernel_rfl) (fun _ _ _ h => h) (by kernel_rfl) ?_ ?_; rotate_left; · (intro wC hC; obtain c1 := hC; go_simp <;> with_reducible rfl)
  refine wpC_take 2 (v := ?_) rfl (by kernel_rfl) (fun _ _ _ h => h) (by kernel_rfl) ?_ ?_; rotate_left; · (intro wC hC; obtain c1 := hC; go_simp <;> with_reducible rfl)
  refine wpC_take 3 (v := ?_) rfl (by kernel_rfl) (fun _ _ _ h => h) (by kernel_rfl) ?_ ?_; rotate_left; · (intro wC hC; obtain c1 := hC; go_simp <;> with_reducible rfl)
  refine wpC_take 5 (v := ?_) rfl (by kernel_rfl) (fun _ _ _ h => h) (by kernel_rfl) ?_ ?_; rotate_left; · (intro wC hC; obtain c1 := hC; go_simp <;> with_reducible rfl)
  refine wpC_step 4 rfl (by kernel_rfl) (by kernel_rfl) (cls _ (cdrew bq)) (fun K hK => ?_)
  go_simp
  go_wp2_with ((go_at_call 49; go_must (refine (k5 _ _ _ (HV3.out.below (cdrew bq)) (HW2.out.below (cdrew bq))).mono ?_); rintro e w4 ⟨v4, rfl, hr4, hb4⟩))
  try (refine hK _ _ ?_; clear hK K)
  have b4 : Below w3.heap.size w3 w4 := cthen (cdrew bq) hb4
  refine wpC_step 6 rfl (by kernel_rfl) (by kernel_rfl) (cls _ b4) (fun K hK => ?_)
  go_simp
  go_wp2_with ((go_at_call 46; go_must (refine (k6 _ _ hr4).mono ?_); rintro e w5 ⟨rfl, hb5⟩))
  try (refine hK _ _ ?_; clear hK K)
  have b5 : Below w3.heap.size w3 w5 := cthen b4 hb5
  have RR := (b5.block (w.heap.size + 1 + 1) z3_2).trans HR3_2.out
  have r0 := rowcell RR 0
  have r1 := rowcell RR 1
  have r2 := rowcell RR 2
  have r3 := rowcell RR 3
  have r4 := rowcell RR 4
  have r5 := rowcell RR 5
  have rf := rowfree RR
  simp only [List.getElem?_toArray, List.getElem?_cons_zero, List.getElem?_cons_succ] at r0 r1 r2 r3 r4 r5
  refine wpC_step 7 rfl (by kernel_rfl) (by kernel_rfl) (cls _ b5) (fun K hK => ?_)
  go_simp
  try (refine hK _ _ ?_; clear hK K)
  refine wpC_done (by kernel_rfl) (by simp [go_sem, cls _ b5]) ?_
  go_wp2
  refine bodyPost_ret (v := .agg #[.int .i64 K, .bool B, .int .i64 S, .int .u64 H, .int .u64 L, .bool R]) (by simp [results, Try.results24, go_sem, r0, r1, r2, r3, r4, r5]) rfl (hQ.out _ _ ⟨by simp, ?_⟩)
  exact cset6 (cthen (cthen (cmore (cthen (cthen (cmore (cmore (cmore (Below.refl _ _) _) _) _) HB1.out) HB2.out) _) HB3.out) b5) (by omega)
theorem sum9_down (neg : Bool) (s : Int) (hi lo : Nat) (neg' : Bool) (s' : Int) (hi' lo' : Nat) (h : WordsX hi lo) (h' : WordsX hi' lo') (hs : -1099511627776 ≤ s ∧ s ≤ 1099511627776) (hs' : -1099511627776 ≤ s' ∧ s' ≤ 1099511627776) (hle : s' ≤ s) (w : World) :
    Calls Try.prog 24 #[exV 1 neg s hi lo false, exV 1 neg' s' hi' lo' false] w fun e w' => e = .returned (sumD neg s (manX hi lo) neg' s' (manX hi' lo')) ∧ Below w.heap.size w w' := by
  by_cases hf : 400 < s - s'
  · rw [sumD_branch neg s (manX hi lo) neg' s' (manX hi' lo') 400 1 (.inr ⟨hf, rfl, rfl⟩)]
    obtain ⟨d, hd⟩ : ∃ d : Nat, d = 400 := ⟨_, rfl⟩
    rw [← hd]
    by_cases hn : neg = neg'
    · rw [if_pos hn]; exact sum9_far_add neg s hi lo neg' s' hi' lo' h h' hs hs' hle hf hn d hd w
    · have hc : 1 ≤ manX hi lo * 2 ^ d := Nat.mul_pos (by have := h.mant.1; have := Nat.pow_pos (n := 127) (show 0 < 2 by decide); omega) (Nat.pow_pos (by decide))
      rw [if_neg hn, if_pos hc]
      exact sum9_far_sub neg s hi lo neg' s' hi' lo' h h' hs hs' hle hf hn d hd hc w
  · obtain ⟨d, hd⟩ : ∃ d : Nat, (d : Int) = s - s' := ⟨(s - s').toNat, by omega⟩
    rw [sumD_branch neg s (manX hi lo) neg' s' (manX hi' lo') d (manX hi' lo') (.inl ⟨hf, hd, rfl⟩)]
    by_cases hn : neg = neg'
    · rw [if_pos hn]; exact sum9_near_add neg s hi lo neg' s' hi' lo' h h' hs hs' hle hf hn d hd w
    · rw [if_neg hn]
      by_cases hc : manX hi' lo' ≤ manX hi lo * 2 ^ d
      · rw [if_pos hc]; exact sum9_near_sub neg s hi lo neg' s' hi' lo' h h' hs hs' hle hf hn d hd hc w
      · rw [if_neg hc]; exact sum9_near_bus neg s hi lo neg' s' hi' lo' h h' hs hs' hle hf hn d hd hc w
theorem sumD_form (neg : Bool) (s : Int) (M : Nat) (neg' : Bool) (s' : Int) (M' : Nat) : ∃ k b s2 h l r, sumD neg s M neg' s' M' = exV k b s2 h l r := by
  unfold sumD
  simp only
  generalize (if 400 < s - s' then farD else (s - s').toNat) = d
  generalize (if 400 < s - s' then 1 else M') = b
  by_cases hn : neg = neg'
  · rw [if_pos hn]; exact exactV_form _ _ _ _
  · rw [if_neg hn]
    by_cases hc : b ≤ M * 2 ^ d
    · rw [if_pos hc]; exact exactV_form _ _ _ _
    · rw [if_neg hc]; exact exactV_form _ _ _ _
theorem sum9_up (neg : Bool) (s : Int) (hi lo : Nat) (neg' : Bool) (s' : Int) (hi' lo' : Nat) (h : WordsX hi lo) (h' : WordsX hi' lo') (hs : -1099511627776 ≤ s ∧ s ≤ 1099511627776) (hs' : -1099511627776 ≤ s' ∧ s' ≤ 1099511627776) (hle : s < s') (w : World) :
    Calls Try.prog 24 #[exV 1 neg s hi lo false, exV 1 neg' s' hi' lo' false] w fun e w' => e = .returned (sumD neg' s' (manX hi' lo') neg s (manX hi lo)) ∧ Below w.heap.size w w' := by
  have k1 := sum9_down neg' s' hi' lo' neg s hi lo h' h hs' hs (by omega)
  obtain ⟨K, B, S, H, L, R, hform⟩ := sumD_form neg' s' (manX hi' lo') neg s (manX hi lo)
  rw [hform] at k1 ⊢
  have g1 : decide (s < s') = true := decide_eq_true hle
  clear hform h h' hs hs' hle
  unfold exV at *
  refine cps fun Q hQ => ?_
  go_enter Try.func24, Try.ntmps24
  go_wp2_with (go_at_call 24; go_must (refine (k1 _).mono ?_); rintro e w1 ⟨rfl, hb1⟩; have RR := (hb1.block (w.heap.size + 1 + 1) (by simp)).trans (rownew' _ _ _ _ (by simp)); have r0 := rowcell RR 0; have r1 := rowcell RR 1; have r2 := rowcell RR 2; have r3 := rowcell RR 3; have r4 := rowcell RR 4; have r5 := rowcell RR 5; have rf := rowfree RR; simp only [List.getElem?_toArray, List.getElem?_cons_zero, List.getElem?_cons_succ] at r0 r1 r2 r3 r4 r5; have HB1 : Hid (Below _ _ _) := hb1; clear hb1 RR)
  refine bodyPost_ret (v := .agg #[.int .i64 K, .bool B, .int .i64 S, .int .u64 H, .int .u64 L, .bool R]) (by simp [results, Try.results24, go_sem, r0, r1, r2, r3, r4, r5]) rfl (hQ.out _ _ ⟨by simp, ?_⟩)
  exact cset6 (cthen (cmore (cmore (cmore (Below.refl _ _) _) _) _) HB1.out) (by omega)
theorem sum9_nar1 (neg : Bool) (s : Int) (hi lo : Nat) (rest : Bool) (k' : Int) (neg' : Bool) (s' : Int) (hi' lo' : Nat) (rest' : Bool) (w : World) :
    Calls Try.prog 24 #[exV 2 neg s hi lo rest, exV k' neg' s' hi' lo' rest'] w fun e w' => e = .returned (exV 2 false 0 0 0 false) ∧ Below w.heap.size w w' := by
  unfold exV at *
  refine cps fun Q hQ => ?_
  go_enter Try.func24, Try.ntmps24
  go_wp2
  refine bodyPost_ret (v := .agg #[.int .i64 2, .bool false, .int .i64 0, .int .u64 0, .int .u64 0, .bool false]) (by simp [results, Try.results24, go_sem]) rfl (hQ.out _ _ ⟨by simp, ?_⟩)
  exact cmore (cmore (cmore (Below.refl _ _) _) _) _
theorem sum9_nar2 (k : Int) (neg : Bool) (s : Int) (hi lo : Nat) (rest : Bool) (neg' : Bool) (s' : Int) (hi' lo' : Nat) (rest' : Bool) (hk : k ≠ 2) (w : World) :
    Calls Try.prog 24 #[exV k neg s hi lo rest, exV 2 neg' s' hi' lo' rest'] w fun e w' => e = .returned (exV 2 false 0 0 0 false) ∧ Below w.heap.size w w' := by
  have g : (k == 2) = false := beq_eq_false_iff_ne.2 hk
  clear hk
  unfold exV at *
  refine cps fun Q hQ => ?_
  go_enter Try.func24, Try.ntmps24
  go_wp2
  refine bodyPost_ret (v := .agg #[.int .i64 2, .bool false, .int .i64 0, .int .u64 0, .int .u64 0, .bool false]) (by simp [results, Try.results24, go_sem]) rfl (hQ.out _ _ ⟨by simp, ?_⟩)
  exact cmore (cmore (cmore (Below.refl _ _) _) _) _
theorem sum9_zero1 (neg : Bool) (s : Int) (hi lo : Nat) (rest : Bool) (k' : Int) (neg' : Bool) (s' : Int) (hi' lo' : Nat) (rest' : Bool) (hk : k' ≠ 2) (w : World) :
    Calls Try.prog 24 #[exV 0 neg s hi lo rest, exV k' neg' s' hi' lo' rest'] w fun e w' => e = .returned (exV k' neg' s' hi' lo' rest') ∧ Below w.heap.size w w' := by
  have g : (k' == 2) = false := beq_eq_false_iff_ne.2 hk
  clear hk
  unfold exV at *
  refine cps fun Q hQ => ?_
  go_enter Try.func24, Try.ntmps24
  go_wp2
  refine bodyPost_ret (v := .agg #[.int .i64 k', .bool neg', .int .i64 s', .int .u64 hi', .int .u64 lo', .bool rest']) (by simp [results, Try.results24, go_sem]) rfl (hQ.out _ _ ⟨by simp, ?_⟩)
  exact cmore (cmore (cmore (Below.refl _ _) _) _) _
theorem sum9_zero2 (k : Int) (neg : Bool) (s : Int) (hi lo : Nat) (rest : Bool) (neg' : Bool) (s' : Int) (hi' lo' : Nat) (rest' : Bool) (hk : k ≠ 2) (h0 : k ≠ 0) (w : World) :
    Calls Try.prog 24 #[exV k neg s hi lo rest, exV 0 neg' s' hi' lo' rest'] w fun e w' => e = .returned (exV k neg s hi lo rest) ∧ Below w.heap.size w w' := by
  have g : (k == 2) = false := beq_eq_false_iff_ne.2 hk
  have g0 : (k == 0) = false := beq_eq_false_iff_ne.2 h0
  clear hk h0
  unfold exV at *
  refine cps fun Q hQ => ?_
  go_enter Try.func24, Try.ntmps24
  go_wp2
  refine bodyPost_ret (v := .agg #[.int .i64 k, .bool neg, .int .i64 s, .int .u64 hi, .int .u64 lo, .bool rest]) (by simp [results, Try.results24, go_sem]) rfl (hQ.out _ _ ⟨by simp, ?_⟩)
  exact cmore (cmore (cmore (Below.refl _ _) _) _) _
theorem sound_words {neg : Bool} {s : Int} {hi lo : Nat} {r : Bool} (hh : hi < 2 ^ 64) (hl : lo < 2 ^ 64) (hs : soundX 1 neg s hi lo r = true) : WordsX hi lo ∧ (-1099511627776 ≤ s ∧ s ≤ 1099511627776) := by
  unfold soundX at hs
  rw [if_neg (by decide)] at hs
  obtain ⟨_, a, b, c⟩ := of_decide_eq_true hs
  exact ⟨⟨a, hh, hl⟩, b, c⟩
/-- of any two that are sound, without Rest -/
theorem sum9_any (k : Int) (neg : Bool) (s : Int) (hi lo : Nat) (k' : Int) (neg' : Bool) (s' : Int) (hi' lo' : Nat) (hh : hi < 2 ^ 64) (hl : lo < 2 ^ 64) (hh' : hi' < 2 ^ 64) (hl' : lo' < 2 ^ 64) (hs : soundX k neg s hi lo false = true) (hs' : soundX k' neg' s' hi' lo' false = true) (w : World) :
    Calls Try.prog 24 #[exV k neg s hi lo false, exV k' neg' s' hi' lo' false] w fun e w' => e = .returned (sum9 k neg s hi lo k' neg' s' hi' lo') ∧ Below w.heap.size w w' := by
  unfold sum9
  by_cases h2 : k = 2
  · subst h2
    rw [if_pos (.inl rfl)]
    exact sum9_nar1 neg s hi lo false k' neg' s' hi' lo' false w
  · by_cases h2' : k' = 2
    · subst h2'
      rw [if_pos (.inr rfl)]
      exact sum9_nar2 k neg s hi lo false neg' s' hi' lo' false h2 w
    · rw [if_neg (by rintro (c | c); exact h2 c; exact h2' c)]
      by_cases h0 : k = 0
      · subst h0
        rw [if_pos rfl]
        exact sum9_zero1 neg s hi lo false k' neg' s' hi' lo' false h2' w
      · rw [if_neg h0]
        by_cases h0' : k' = 0
        · subst h0'
          rw [if_pos rfl]
          exact sum9_zero2 k neg s hi lo false neg' s' hi' lo' false h2 h0 w
        · rw [if_neg h0']
          have hk : k = 1 := by rcases soundX_cases hs with ⟨c, _⟩ | ⟨c, _⟩ | c; exact absurd c h0; exact absurd c h2; exact c
          have hk' : k' = 1 := by rcases soundX_cases hs' with ⟨c, _⟩ | ⟨c, _⟩ | c; exact absurd c h0'; exact absurd c h2'; exact c
          subst hk hk'
          obtain ⟨a, b⟩ := sound_words hh hl hs
          obtain ⟨a', b'⟩ := sound_words hh' hl' hs'
          unfold sumR
          by_cases c : s < s'
          · rw [if_pos c]; exact sum9_up neg s hi lo neg' s' hi' lo' a a' b b' c w
          · rw [if_neg c]; exact sum9_down neg s hi lo neg' s' hi' lo' a a' b b' (by omega) w
end Go.Proofs.Ytheliihkkoohnaa

namespace Go.Proofs.Ytheliihkkoohnaa
open Go.ChangeShapes Go.WideShapes Go.ChangeAt Go.RowKit
set_option linter.unusedVariables false
set_option linter.unusedSimpArgs false
set_option maxRecDepth 100000

theorem sumR_form (neg : Bool) (s : Int) (M : Nat) (neg' : Bool) (s' : Int) (M' : Nat) : ∃ k b s2 h l r, sumR neg s M neg' s' M' = exV k b s2 h l r := by
  unfold sumR
  by_cases c : s < s'
  · rw [if_pos c]; exact sumD_form _ _ _ _ _ _
  · rw [if_neg c]; exact sumD_form _ _ _ _ _ _
theorem sum9_form (k : Int) (neg : Bool) (s : Int) (hi lo : Nat) (k' : Int) (neg' : Bool) (s' : Int) (hi' lo' : Nat) : ∃ k2 b s2 h l r, sum9 k neg s hi lo k' neg' s' hi' lo' = exV k2 b s2 h l r := by
  unfold sum9
  by_cases h : k = 2 ∨ k' = 2
  · rw [if_pos h]; exact ⟨_, _, _, _, _, _, rfl⟩
  · rw [if_neg h]
    by_cases h0 : k = 0
    · rw [if_pos h0]; exact ⟨_, _, _, _, _, _, rfl⟩
    · rw [if_neg h0]
      by_cases h1 : k' = 0
      · rw [if_pos h1]; exact ⟨_, _, _, _, _, _, rfl⟩
      · rw [if_neg h1]; exact sumR_form _ _ _ _ _ _
theorem soundN_X {k : Int} {neg : Bool} {s : Int} {f : Nat} (h : soundN k neg s f = true) : soundX k neg s f 0 false = true := by
  unfold soundN at h
  unfold soundX
  by_cases hk : k = 0 ∨ k = 2
  · rw [if_pos hk] at h ⊢
    have := of_decide_eq_true h
    exact decide_eq_true ⟨this.1, this.2.1, this.2.2, rfl, rfl⟩
  · rw [if_neg hk] at h ⊢
    obtain ⟨a, b, c, d⟩ := of_decide_eq_true h
    exact decide_eq_true ⟨a, b, by omega, by omega⟩
theorem vF_lt (n x : Nat) : vF n x < 2 ^ 64 := by
  unfold vF
  split
  · exact (wordL_bounds _).2
  · decide
end Go.Proofs.Ytheliihkkoohnaa

namespace Go.Proofs.Ytheliihkkoohnaa
open Go.ChangeShapes Go.WideShapes Go.ChangeAt Go.RowKit
set_option linter.unusedVariables false
set_option linter.unusedSimpArgs false
set_option maxRecDepth 100000

/-! ### the document's products -/
theorem prod10_form (k : Int) (neg : Bool) (s : Int) (f : Nat) (k' : Int) (neg' : Bool) (s' : Int) (g : Nat) : ∃ k2 b s2 h l r, prod10 k neg s f k' neg' s' g = exV k2 b s2 h l r := by
  unfold prod10
  by_cases h : k = 2 ∨ k' = 2
  · rw [if_pos h]; exact ⟨_, _, _, _, _, _, rfl⟩
  · rw [if_neg h]
    by_cases h0 : k = 0 ∨ k' = 0
    · rw [if_pos h0]; exact ⟨_, _, _, _, _, _, rfl⟩
    · rw [if_neg h0]; exact exactV_form _ _ _ _
theorem mul64_blen {f g : Nat} (hf : f < 2 ^ 64) (hg : g < 2 ^ 64) : blen (f * g) ≤ 128 := by
  refine blen_le.2 ?_
  rw [show (2 : Nat) ^ 128 = 2 ^ 64 * 2 ^ 64 by decide]
  rcases Nat.eq_zero_or_pos f with rfl | h
  · rw [Nat.zero_mul]; decide
  · exact Nat.mul_lt_mul_of_lt_of_le hf (Nat.le_of_lt hg) (by decide)
theorem soundN_kinds {k : Int} {neg : Bool} {s : Int} {f : Nat} (h : soundN k neg s f = true) : k = 0 ∨ k = 2 ∨ k = 1 := by
  rcases sound_cases h with ⟨a, _⟩ | ⟨a, _⟩ | a
  · exact .inl a
  · exact .inr (.inl a)
  · exact .inr (.inr a)
end Go.Proofs.Ytheliihkkoohnaa

namespace Go.Proofs.Ytheliihkkoohnaa
open Go.ChangeShapes Go.WideShapes Go.ChangeAt Go.RowKit
set_option linter.unusedVariables false
set_option linter.unusedSimpArgs false
set_option maxRecDepth 100000

/-! ### powers of 2 as patterns -/
def P63 : Nat := 9223372036854775808
theorem P63_eq : P63 = 9223372036854775808 := rfl
theorem P63_man : manX P63 0 = 2 ^ 127 := by unfold manX P63; decide
theorem P63_words : WordsX P63 0 := ⟨by decide, by decide, by decide⟩
def okT (n : Nat) (s : Int) : Bool := inR n s && fitsN n s P63
def patT (n : Nat) (s : Int) : Nat := if okT n s then patOf n false (cutL n s P63) else 0
theorem okT_facts (n : Nat) (s : Int) (hn : Wd n) (h : okT n s = true) :
    patT n s < 2 ^ n ∧ vK n (patT n s) = 1 ∧ valI n (patT n s) = sg false (manX P63 0) * ((2 ^ (s + 248).toNat : Nat) : Int) ∧ 8 - 4 * (n : Int) ≤ s ∧ s ≤ 4 * n - 8 ∧ patT n s = rndX n s P63 0 false := by
  obtain ⟨h1, h2⟩ := Bool.and_eq_true_iff.1 h
  obtain ⟨ht, hl⟩ := cut_true n s P63 hn h1
  obtain ⟨p1, p2, p3, p4⟩ := patOf_facts n hn false (cutL n s P63) hl ht
  obtain ⟨f1, f2⟩ := of_decide_eq_true h2
  have hr := of_decide_eq_true h1
  have e : patT n s = patOf n false (cutL n s P63) := by unfold patT; rw [if_pos h]
  rw [e]
  refine ⟨p1, p2, ?_, hr.1, hr.2, ?_⟩
  · unfold valI
    have k1 : vK n (patOf n false (cutL n s P63)) = 1 := p2
    have k2 : vB n (patOf n false (cutL n s P63)) = false := by unfold vB; rw [if_pos p2, p3]
    have k3 : vS n (patOf n false (cutL n s P63)) = s := by unfold vS; rw [if_pos p2, p4, f1]
    have k4 : vF n (patOf n false (cutL n s P63)) = P63 := by unfold vF; rw [if_pos p2, p4, f2]
    rw [if_pos k1, k2, k3, k4]
  · have := rnd_home n (cutL n s P63) hn hl ht
    rw [f1, f2] at this
    rw [this]; rfl
theorem okT_parts (n : Nat) (s : Int) (hn : Wd n) (h : okT n s = true) : vB n (patT n s) = false ∧ vS n (patT n s) = s ∧ vF n (patT n s) = P63 := by
  obtain ⟨h1, h2⟩ := Bool.and_eq_true_iff.1 h
  obtain ⟨ht, hl⟩ := cut_true n s P63 hn h1
  obtain ⟨p1, p2, p3, p4⟩ := patOf_facts n hn false (cutL n s P63) hl ht
  obtain ⟨f1, f2⟩ := of_decide_eq_true h2
  have e : patT n s = patOf n false (cutL n s P63) := by unfold patT; rw [if_pos h]
  rw [e]
  refine ⟨?_, ?_, ?_⟩
  · unfold vB; rw [if_pos p2, p3]
  · unfold vS; rw [if_pos p2, p4, f1]
  · unfold vF; rw [if_pos p2, p4, f2]
theorem two_mul (n : Nat) (s t : Int) (hn : Wd n) (hs : okT n s = true) (ht : okT n t = true) : patP n (patT n s) (patT n t) = rndX n (s + t) P63 0 false := by
  obtain ⟨_, a2, a3, a4, a5, _⟩ := okT_facts n s hn hs
  obtain ⟨_, b2, b3, b4, b5, _⟩ := okT_facts n t hn ht
  have hw := wd_le hn
  unfold patP
  rw [if_neg (by rw [a2, b2]; decide), a3, b3]
  have e1 : sg false (manX P63 0) * ((2 ^ (s + 248).toNat : Nat) : Int) * (sg false (manX P63 0) * ((2 ^ (t + 248).toNat : Nat) : Int)) = sg false (manX P63 0) * ((2 ^ (s + t + 623).toNat : Nat) : Int) := by
    rw [← sg_mul, ← sg_mul, ← sg_mul, sg_times]
    have hx : xorB false false = false := rfl
    rw [hx]
    congr 1
    rw [P63_man, ← Nat.pow_add, ← Nat.pow_add, ← Nat.pow_add, ← Nat.pow_add]
    congr 1
    omega
  rw [e1]
  have h := exI_real false (s + t) P63 0 P63_words (by omega) (-623) (s + t + 623).toNat (by omega)
  rw [show (-623 : Int) - 127 = eN + eN from rfl] at h
  have h0 : sg false (manX P63 0) * ((2 ^ (s + t + 623).toNat : Nat) : Int) ≠ 0 := by
    rw [← sg_mul, P63_man]
    have : 0 < 2 ^ 127 * 2 ^ (s + t + 623).toNat := Nat.mul_pos (Nat.pow_pos (by decide)) (Nat.pow_pos (by decide))
    unfold sg
    rw [if_neg (by decide)]
    generalize 2 ^ 127 * 2 ^ (s + t + 623).toNat = x at *
    omega
  rw [patI_of h0 h]
  rfl
end Go.Proofs.Ytheliihkkoohnaa

namespace Go.Proofs.Ytheliihkkoohnaa
set_option maxRecDepth 100000
set_option linter.unusedVariables false
set_option linter.unusedSimpArgs false

/-! ### quotients (plain mathematics) -/
def quoN (f g : Nat) : Nat := f * 2 ^ 200 / g
def quoR (f g : Nat) : Bool := decide (f * 2 ^ 200 % g ≠ 0)
/-- the first 64 digits alone -/
def cutV (neg : Bool) (M : Nat) (e : Int) (r : Bool) : Value := exV 1 neg (heldX (e + blen M - 1)) (normN M / 2 ^ 64 % 2 ^ 64) 0 ((r || lostN M) || decide (normN M % 2 ^ 64 ≠ 0))
def mgC (n M : Nat) (e : Int) (r : Bool) : Nat := rndX n (heldX (e + blen M - 1)) (normN M / 2 ^ 64 % 2 ^ 64) 0 ((r || lostN M) || decide (normN M % 2 ^ 64 ≠ 0))
def quot11 (k : Int) (neg : Bool) (s : Int) (f : Nat) (k' : Int) (neg' : Bool) (s' : Int) (g : Nat) : Value :=
  if k = 2 ∨ k' ≠ 1 then exV 2 false 0 0 0 false
  else if k = 0 then exV 0 false 0 0 0 false
  else cutV (xorB neg neg') (quoN f g) (s - s' - 200) (quoR f g)
def patQ (n a b : Nat) : Nat :=
  if vK n a = 2 ∨ vK n b ≠ 1 then 2 ^ (n - 1)
  else if vK n a = 0 then 0
  else patR n (xorB (vB n a) (vB n b)) (mgC n (quoN (vF n a) (vF n b)) (vS n a - vS n b - 200) (quoR (vF n a) (vF n b)))
theorem word_blen {f : Nat} (h : WordsX f 0) : blen f = 64 := by
  have h1 := h.top
  have h2 := h.hi64
  exact blen_at (m := 63) h1 h2
/-- a word, shifted: nothing behind its 64 digits -/
theorem mgC_word (n f j : Nat) (e : Int) (h : WordsX f 0) (he : -1099511627776 ≤ e + j + 63 ∧ e + j + 63 ≤ 1099511627776) : mgC n (f * 2 ^ j) e false = rndX n (e + j + 63) f 0 false := by
  have h0 : f ≠ 0 := by have := h.top; omega
  obtain ⟨a, b⟩ := norm_two j h0
  have hb := word_blen h
  have hn : normN f = f * 2 ^ 64 := by unfold normN; rw [hb, if_pos (by omega)]
  have hl : lostN f = false := by unfold lostN; rw [hb, decide_eq_false (by omega), Bool.false_and]
  unfold mgC
  rw [a, b, hl, hn, blen_two j h0, hb, Nat.mul_div_cancel _ (Nat.pow_pos (by decide)), Nat.mod_eq_of_lt h.hi64, Nat.mul_mod_left]
  have hx : heldX (e + ((64 + j : Nat) : Int) - 1) = e + j + 63 := by unfold heldX; rw [if_neg (by omega), if_neg (by omega)]; omega
  rw [hx]
  simp
theorem quo_one (f : Nat) : quoN f P63 = f * 2 ^ 137 ∧ quoR f P63 = false := by
  have e : f * 2 ^ 200 = f * 2 ^ 137 * P63 := by rw [Nat.mul_assoc]; congr 1
  unfold quoN quoR
  rw [e, Nat.mul_div_cancel _ (by decide), Nat.mul_mod_left]
  exact ⟨rfl, by decide⟩
theorem quo_self {f : Nat} (h : 0 < f) : quoN f f = P63 * 2 ^ 137 ∧ quoR f f = false := by
  unfold quoN quoR
  rw [Nat.mul_comm, Nat.mul_div_cancel _ h, Nat.mul_mod_left]
  exact ⟨by decide +kernel, by decide⟩
theorem one_parts (n : Nat) (hn : Wd n) : vK n (2 ^ (n - 2)) = 1 ∧ vB n (2 ^ (n - 2)) = false ∧ vS n (2 ^ (n - 2)) = 0 ∧ vF n (2 ^ (n - 2)) = P63 ∧ rndX n 0 P63 0 false = 2 ^ (n - 2) := by
  rcases hn with rfl | rfl | rfl | rfl <;> exact ⟨by decide +kernel, by decide +kernel, by decide +kernel, by decide +kernel, by decide +kernel⟩
/-- divided by a power of 2 -/
theorem quo_two (n a b : Nat) (s : Int) (hn : Wd n) (ha : a < 2 ^ 64) (ka : vK n a = 1) (kb : vK n b = 1) (sb : vS n b = s) (fb : vF n b = P63) (hs : -1000 ≤ s ∧ s ≤ 1000) : patQ n a b = patR n (xorB (vB n a) (vB n b)) (rndX n (vS n a - s) (vF n a) 0 false) := by
  obtain ⟨_, _, _, _, _, _, hwd, s1, s2⟩ := v_real n a hn ha ka
  have hw := wd_le hn
  obtain ⟨q1, q2⟩ := quo_one (vF n a)
  unfold patQ
  rw [if_neg (by rw [ka, kb]; decide), if_neg (by rw [ka]; decide), sb, fb, q1, q2, mgC_word n (vF n a) 137 _ hwd (by omega), show vS n a - s - 200 + ((137 : Nat) : Int) + 63 = vS n a - s by omega]
theorem own_real (n a : Nat) (hn : Wd n) (ha : a < 2 ^ 64) (ka : vK n a = 1) : patR n (vB n a) (rndX n (vS n a) (vF n a) 0 false) = a % 2 ^ n := by
  obtain ⟨e1, e2, e3, ht, hl, hk', hwd, _⟩ := v_real n a hn ha ka
  rw [e2, e3, rnd_home n _ hn hl ht, patR_of, e1]
  exact (patOf_str n a hn ha hk').2
theorem patR_not (n : Nat) (neg : Bool) (R : Nat) (hn : Wd n) (h1 : 1 ≤ R) (h2 : R ≤ 2 ^ (n - 1) - 1) : patR n (!neg) R = negO n (patR n neg R) := by
  obtain ⟨H, p1, p2, p3, _⟩ := wd_pows hn
  rw [p2] at h2
  have hlt : patR n neg R < 2 ^ n := by unfold patR; split <;> omega
  rw [negO_eq n _ hn (lt64_of hn hlt), Nat.mod_eq_of_lt hlt]
  unfold patR
  cases neg
  · simp only [Bool.not_false, if_true, Bool.false_eq_true, if_false]
    rw [Nat.mod_eq_of_lt (by omega)]
  · simp only [Bool.not_true, if_true, Bool.false_eq_true, if_false]
    rw [Nat.mod_eq_of_lt (by omega)]; omega
theorem xorB_false (a : Bool) : xorB a false = a := by cases a <;> rfl
theorem xorB_true (a : Bool) : xorB a true = !a := by cases a <;> rfl
theorem xorB_self (a : Bool) : xorB a a = false := by cases a <;> rfl
theorem xorB_not (a b : Bool) : xorB (!a) b = !(xorB a b) ∧ xorB a (!b) = !(xorB a b) := by cases a <;> cases b <;> exact ⟨rfl, rfl⟩
theorem mgC_range {n M : Nat} (e : Int) (r : Bool) (hn : Wd n) (h0 : M ≠ 0) : 1 ≤ mgC n M e r ∧ mgC n M e r ≤ 2 ^ (n - 1) - 1 := by
  have h := normN_words h0
  exact rnd_range n _ _ _ _ hn ⟨h.top, h.hi64, by decide⟩
theorem quo_pos {f g : Nat} (hf : 9223372036854775808 ≤ f) (hg : g < 2 ^ 64) (h0 : 0 < g) : quoN f g ≠ 0 := by
  unfold quoN
  have h1 : g ≤ f * 2 ^ 200 := by
    have : 2 ^ 64 ≤ f * 2 ^ 200 := Nat.le_trans (by decide) (Nat.mul_le_mul_right (2 ^ 200) hf)
    omega
  have := (Nat.le_div_iff_mul_le h0).2 (by rw [Nat.one_mul]; exact h1)
  omega
theorem real_or (n a : Nat) (hn : Wd n) (h2 : vK n a ≠ 2) (h0 : vK n a ≠ 0) : vK n a = 1 := by
  rcases v_kinds n a hn with ⟨h, _⟩ | h | ⟨h, _⟩
  · exact absurd h h0
  · exact h
  · exact absurd h h2
theorem patQ_real (n a b : Nat) (hn : Wd n) (ha : a < 2 ^ 64) (hb : b < 2 ^ 64) (ka : vK n a = 1) (kb : vK n b = 1) :
    ∃ R, 1 ≤ R ∧ R ≤ 2 ^ (n - 1) - 1 ∧ R = mgC n (quoN (vF n a) (vF n b)) (vS n a - vS n b - 200) (quoR (vF n a) (vF n b)) ∧ patQ n a b = patR n (xorB (vB n a) (vB n b)) R := by
  obtain ⟨_, _, _, _, _, _, wa, _⟩ := v_real n a hn ha ka
  obtain ⟨_, _, _, _, _, _, wb, _⟩ := v_real n b hn hb kb
  have h := mgC_range (vS n a - vS n b - 200) (quoR (vF n a) (vF n b)) hn (quo_pos wa.top wb.hi64 (by have := wb.top; omega))
  refine ⟨_, h.1, h.2, rfl, ?_⟩
  unfold patQ
  rw [if_neg (by rw [ka, kb]; decide), if_neg (by rw [ka]; decide)]
theorem patQ_nar (n a b : Nat) (h : vK n a = 2 ∨ vK n b ≠ 1) : patQ n a b = 2 ^ (n - 1) := by unfold patQ; rw [if_pos h]
theorem patQ_zero (n a b : Nat) (h : vK n a = 0) (hb : vK n b = 1) : patQ n a b = 0 := by unfold patQ; rw [if_neg (by rw [h, hb]; decide), if_pos h]
theorem patQ_lt (n a b : Nat) (hn : Wd n) (ha : a < 2 ^ 64) (hb : b < 2 ^ 64) : patQ n a b < 2 ^ n := by
  obtain ⟨H, p1, p2, p3, _⟩ := wd_pows hn
  by_cases h : vK n a = 2 ∨ vK n b ≠ 1
  · rw [patQ_nar n a b h]; omega
  · have a2 : vK n a ≠ 2 := fun c => h (.inl c)
    have b1 : vK n b = 1 := Classical.not_not.1 fun c => h (.inr c)
    by_cases a0 : vK n a = 0
    · rw [patQ_zero n a b a0 b1]; omega
    · obtain ⟨R, r1, r2, _, e⟩ := patQ_real n a b hn ha hb (real_or n a hn a2 a0) b1
      rw [e]; unfold patR; split <;> omega
theorem negO_zero (n : Nat) (hn : Wd n) : negO n 0 = 0 := by rw [negO_eq n 0 hn (by decide), Nat.zero_mod, Nat.sub_zero, Nat.mod_self]
theorem patQ_minus1 (n a b : Nat) (hn : Wd n) (ha : a < 2 ^ 64) (hb : b < 2 ^ 64) : patQ n (minusU a) b = negO n (patQ n a b) := by
  have hm := minusU_mod n a hn ha
  obtain ⟨k, _, vb, vs, vf⟩ := val_neg n a (minusU a) hn ha (minusU_lt a) hm
  by_cases h : vK n a = 2 ∨ vK n b ≠ 1
  · rw [patQ_nar n a b h, patQ_nar n _ b (by rw [k]; exact h), negO_nar n hn]
  · have a2 : vK n a ≠ 2 := fun c => h (.inl c)
    have b1 : vK n b = 1 := Classical.not_not.1 fun c => h (.inr c)
    by_cases a0 : vK n a = 0
    · rw [patQ_zero n a b a0 b1, patQ_zero n _ b (by rw [k]; exact a0) b1, negO_zero n hn]
    · have a1 := real_or n a hn a2 a0
      obtain ⟨R, r1, r2, e0, e⟩ := patQ_real n a b hn ha hb a1 b1
      obtain ⟨R', _, _, e0', e'⟩ := patQ_real n (minusU a) b hn (minusU_lt a) hb (by rw [k]; exact a1) b1
      rw [vs, vf, ← e0] at e0'
      rw [e', e, e0', vb a1, (xorB_not _ _).1, patR_not n _ R hn r1 r2]
theorem patQ_minus2 (n a b : Nat) (hn : Wd n) (ha : a < 2 ^ 64) (hb : b < 2 ^ 64) : patQ n a (minusU b) = negO n (patQ n a b) := by
  have hm := minusU_mod n b hn hb
  obtain ⟨k, _, vb, vs, vf⟩ := val_neg n b (minusU b) hn hb (minusU_lt b) hm
  by_cases h : vK n a = 2 ∨ vK n b ≠ 1
  · rw [patQ_nar n a b h, patQ_nar n a _ (by rw [k]; exact h), negO_nar n hn]
  · have a2 : vK n a ≠ 2 := fun c => h (.inl c)
    have b1 : vK n b = 1 := Classical.not_not.1 fun c => h (.inr c)
    by_cases a0 : vK n a = 0
    · rw [patQ_zero n a b a0 b1, patQ_zero n a _ a0 (by rw [k]; exact b1), negO_zero n hn]
    · have a1 := real_or n a hn a2 a0
      obtain ⟨R, r1, r2, e0, e⟩ := patQ_real n a b hn ha hb a1 b1
      obtain ⟨R', _, _, e0', e'⟩ := patQ_real n a (minusU b) hn ha (minusU_lt b) a1 (by rw [k]; exact b1)
      rw [vs, vf, ← e0] at e0'
      rw [e', e, e0', vb b1, (xorB_not _ _).2, patR_not n _ R hn r1 r2]
theorem patQ_one (n a : Nat) (hn : Wd n) (ha : a < 2 ^ 64) : patQ n a (2 ^ (n - 2)) = a % 2 ^ n := by
  obtain ⟨o1, o2, o3, o4, _⟩ := one_parts n hn
  rcases v_kinds n a hn with ⟨h, hz⟩ | h | ⟨h, hz⟩
  · rw [patQ_zero n a _ h o1, hz]
  · rw [quo_two n a _ 0 hn ha h o1 o3 o4 (by decide), o2, xorB_false, Int.sub_zero]
    exact own_real n a hn ha h
  · rw [patQ_nar n a _ (.inl h), hz]
theorem patQ_mone (n a : Nat) (hn : Wd n) (ha : a < 2 ^ 64) : patQ n a (minusU (2 ^ (n - 2))) = negO n a := by
  rw [patQ_minus2 n a _ hn ha (one_lt n hn), patQ_one n a hn ha, negO_mod n a hn ha]
theorem patQ_self (n a : Nat) (hn : Wd n) (ha : a < 2 ^ 64) (h : vK n a = 1) : patQ n a a = 2 ^ (n - 2) := by
  obtain ⟨_, _, _, _, o5⟩ := one_parts n hn
  obtain ⟨_, _, _, _, _, _, wa, _⟩ := v_real n a hn ha h
  obtain ⟨q1, q2⟩ := quo_self (show 0 < vF n a by have := wa.top; omega)
  unfold patQ
  rw [if_neg (by rw [h]; decide), if_neg (by rw [h]; decide), q1, q2, mgC_word n P63 137 _ P63_words (by omega), xorB_self, show vS n a - vS n a - 200 + ((137 : Nat) : Int) + 63 = 0 by omega, o5]
  rfl
/-- a product with a power of 2 -/
theorem mul_two (n a : Nat) (t : Int) (hn : Wd n) (ha : a < 2 ^ 64) (ka : vK n a = 1) (ht : okT n t = true) : patP n a (patT n t) = patR n (vB n a) (rndX n (vS n a + t) (vF n a) 0 false) := by
  obtain ⟨_, b2, b3, b4, b5, _⟩ := okT_facts n t hn ht
  obtain ⟨_, _, _, _, _, _, wa, s1, s2⟩ := v_real n a hn ha ka
  have hw := wd_le hn
  unfold patP
  rw [if_neg (by rw [ka, b2]; decide), b3]
  have e1 : valI n a * (sg false (manX P63 0) * ((2 ^ (t + 248).toNat : Nat) : Int)) = sg (vB n a) (manX (vF n a) 0) * ((2 ^ (vS n a + t + 623).toNat : Nat) : Int) := by
    unfold valI
    rw [if_pos ka, ← sg_mul, ← sg_mul, ← sg_mul, sg_times, xorB_false]
    congr 1
    rw [P63_man, Nat.mul_assoc, ← Nat.pow_add, ← Nat.pow_add]
    congr 2
    omega
  rw [e1]
  have h := exI_real (vB n a) (vS n a + t) (vF n a) 0 wa (by omega) (-623) (vS n a + t + 623).toNat (by omega)
  rw [show (-623 : Int) - 127 = eN + eN from rfl] at h
  have h0 : sg (vB n a) (manX (vF n a) 0) * ((2 ^ (vS n a + t + 623).toNat : Nat) : Int) ≠ 0 := by
    refine Int.mul_ne_zero ?_ ?_
    · have := wa.mant.1
      have hp := Nat.pow_pos (n := 127) (show 0 < 2 by decide)
      unfold sg
      split <;> omega
    · have hp := Nat.pow_pos (n := (vS n a + t + 623).toNat) (show 0 < 2 by decide)
      omega
  rw [patI_of h0 h]
/-- divided by a power of 2 is multiplied by its inverse -/
theorem quo_mul (n a : Nat) (s : Int) (hn : Wd n) (ha : a < 2 ^ 64) (h1 : okT n s = true) (h2 : okT n (-s) = true) : patQ n a (patT n s) = patP n a (patT n (-s)) ∧ patQ n (2 ^ (n - 2)) (patT n s) = patT n (-s) := by
  obtain ⟨b1, b2, b3, b4, b5, b6⟩ := okT_facts n s hn h1
  obtain ⟨c1, c2, c3, c4, c5, c6⟩ := okT_facts n (-s) hn h2
  have hp := okT_parts n s hn h1
  obtain ⟨o1, o2, o3, o4, o5⟩ := one_parts n hn
  have hw := wd_le hn
  constructor
  · rcases v_kinds n a hn with ⟨h, hz⟩ | h | ⟨h, hz⟩
    · rw [patQ_zero n a _ h b2]
      unfold patP
      rw [if_neg (by rw [h, c2]; decide), val_zero n a (by rw [h]; decide), Int.zero_mul]
      rfl
    · rw [quo_two n a _ s hn ha h b2 hp.2.1 hp.2.2 (by omega), hp.1, xorB_false, mul_two n a (-s) hn ha h h2]
      rfl
    · rw [patQ_nar n a _ (.inl h), patP_nar n a _ (.inl h)]
  · rw [quo_two n _ _ s hn (one_lt n hn) o1 b2 hp.2.1 hp.2.2 (by omega), o2, o3, o4, hp.1, c6, Int.zero_sub]
    rfl
end Go.Proofs.Ytheliihkkoohnaa

namespace Go.Proofs.Ytheliihkkoohnaa
set_option linter.unusedVariables false
set_option linter.unusedSimpArgs false
set_option maxRecDepth 100000

/-! ### roots (plain mathematics) -/
def rtF (m : Nat) : Nat → Nat → Nat
  | r, 0 => r
  | r, k + 1 => rtF m (if (r + 2 ^ k) * (r + 2 ^ k) ≤ m then r + 2 ^ k else r) k
theorem rtF_ok (m : Nat) : ∀ k r, r * r ≤ m → m < (r + 2 ^ k) * (r + 2 ^ k) → rtF m r k * rtF m r k ≤ m ∧ m < (rtF m r k + 1) * (rtF m r k + 1) := by
  intro k
  induction k with
  | zero => intro r h1 h2; exact ⟨h1, h2⟩
  | succ k ih =>
    intro r h1 h2
    unfold rtF
    by_cases h : (r + 2 ^ k) * (r + 2 ^ k) ≤ m
    · rw [if_pos h]
      refine ih _ h ?_
      rw [Nat.add_assoc, ← Nat.two_mul, ← Nat.pow_succ']
      exact h2
    · rw [if_neg h]
      exact ih _ h1 (by omega)
def rtN (m : Nat) : Nat := rtF m 0 71
theorem rtN_ok {m : Nat} (h : m < 2 ^ 142) : rtN m * rtN m ≤ m ∧ m < (rtN m + 1) * (rtN m + 1) :=
  rtF_ok m 71 0 (by omega) (by rw [Nat.zero_add, ← Nat.pow_add]; exact h)
theorem sq_le' {a b : Nat} (h : a * a < (b + 1) * (b + 1)) : a ≤ b := by
  refine Nat.le_of_not_lt fun c => ?_
  have := Nat.mul_le_mul (show b + 1 ≤ a by omega) (show b + 1 ≤ a by omega)
  omega
def rtH (m : Nat) : Nat := rtN m / 2 ^ 7
def rtR (m : Nat) : Bool := decide (rtH m * rtH m * 2 ^ 14 ≠ m)
theorem sq_shift (a : Nat) : (a * 2 ^ 7) * (a * 2 ^ 7) = a * a * 2 ^ 14 := by rw [Nat.mul_mul_mul_comm, ← Nat.pow_add]
theorem rtH_ok {m : Nat} (h : m < 2 ^ 142) : rtH m * rtH m * 2 ^ 14 ≤ m ∧ m < (rtH m + 1) * (rtH m + 1) * 2 ^ 14 := by
  obtain ⟨h1, h2⟩ := rtN_ok h
  have hd := Nat.div_add_mod (rtN m) (2 ^ 7)
  have hm := Nat.mod_lt (rtN m) (show 0 < 2 ^ 7 by decide)
  rw [show rtN m / 2 ^ 7 = rtH m from rfl] at hd
  rw [← sq_shift, ← sq_shift]
  constructor
  · exact Nat.le_trans (Nat.mul_le_mul (show rtH m * 2 ^ 7 ≤ rtN m by omega) (show rtH m * 2 ^ 7 ≤ rtN m by omega)) h1
  · exact Nat.lt_of_lt_of_le h2 (Nat.mul_le_mul (by omega) (by omega))
theorem rtH_one {m r : Nat} (h : m < 2 ^ 142) (h1 : r * r * 2 ^ 14 ≤ m) (h2 : m < (r + 1) * (r + 1) * 2 ^ 14) : r = rtH m := by
  obtain ⟨a, b⟩ := rtH_ok h
  have c1 : r ≤ rtH m := sq_le' (by
    have := Nat.lt_of_le_of_lt h1 b
    exact Nat.lt_of_mul_lt_mul_right this)
  have c2 : rtH m ≤ r := sq_le' (by
    have := Nat.lt_of_le_of_lt a h2
    exact Nat.lt_of_mul_lt_mul_right this)
  omega
theorem rtR_eq {m : Nat} (h : m < 2 ^ 142) : (decide (rtN m % 2 ^ 7 ≠ 0) || decide (rtN m * rtN m ≠ m)) = rtR m := by
  obtain ⟨h1, h2⟩ := rtN_ok h
  have hd := Nat.div_add_mod (rtN m) (2 ^ 7)
  rw [show rtN m / 2 ^ 7 = rtH m from rfl] at hd
  have hm := Nat.mod_lt (rtN m) (show 0 < 2 ^ 7 by decide)
  unfold rtR
  rw [Bool.eq_iff_iff, Bool.or_eq_true, decide_eq_true_eq, decide_eq_true_eq, decide_eq_true_eq, ← sq_shift]
  constructor
  · intro hor hc
    have he : rtN m = rtH m * 2 ^ 7 := by
      have e1 : rtN m ≤ rtH m * 2 ^ 7 := sq_le' (by
        have e2 : rtH m * 2 ^ 7 < rtH m * 2 ^ 7 + 1 := Nat.lt_succ_self _
        exact Nat.lt_of_le_of_lt (Nat.le_trans h1 (Nat.le_of_eq hc.symm)) (Nat.mul_lt_mul_of_lt_of_lt e2 e2))
      omega
    rcases hor with c | c
    · exact c (by omega)
    · exact c (by rw [he]; exact hc)
  · intro hc
    by_cases c : rtN m % 2 ^ 7 = 0
    · refine .inr fun e => hc ?_
      have he : rtN m = rtH m * 2 ^ 7 := by omega
      rw [← he]; exact e
    · exact .inl c
theorem rtH_mono {m m' : Nat} (h : m < 2 ^ 142) (h' : m' < 2 ^ 142) (hle : m ≤ m') : 2 * rtH m + (rtR m).toNat ≤ 2 * rtH m' + (rtR m').toNat := by
  obtain ⟨a, b⟩ := rtH_ok h
  obtain ⟨a', b'⟩ := rtH_ok h'
  have c : rtH m ≤ rtH m' := sq_le' (Nat.lt_of_mul_lt_mul_right (Nat.lt_of_le_of_lt (Nat.le_trans a hle) b'))
  have d : ∀ x : Bool, x.toNat ≤ 1 := fun x => by cases x <;> decide
  by_cases e : rtH m = rtH m'
  · have : rtR m = true → rtR m' = true := by
      unfold rtR
      rw [decide_eq_true_eq, decide_eq_true_eq, ← e]
      intro f
      omega
    cases h1 : rtR m
    · simp only [Bool.toNat_false]; omega
    · rw [this h1]; omega
  · have := d (rtR m)
    omega
/-- the number whose root is taken, times 2^14 -/
def mR (s : Int) (M : Nat) : Nat := M * 2 ^ (13 + (s % 2).toNat)
theorem mR_two (s : Int) (M : Nat) : (s % 2 = 0 ∧ mR s M = M * 2 ^ 13) ∨ (s % 2 = 1 ∧ mR s M = M * 2 ^ 14) := by
  rcases Int.emod_two_eq s with h | h
  · exact .inl ⟨h, by unfold mR; rw [h]; rfl⟩
  · exact .inr ⟨h, by unfold mR; rw [h]; rfl⟩
theorem mR_size (s : Int) {M : Nat} (h : Mant M) : 2 ^ 140 ≤ mR s M ∧ mR s M < 2 ^ 142 := by
  obtain ⟨h1, h2⟩ := h
  rcases mR_two s M with ⟨_, e⟩ | ⟨_, e⟩ <;> rw [e] <;> omega
theorem rt_words {m : Nat} (h1 : 2 ^ 140 ≤ m) (h2 : m < 2 ^ 142) : 2 ^ 70 ≤ rtN m ∧ rtN m < 2 ^ 71 ∧ WordsX (rtH m) 0 := by
  obtain ⟨a, b⟩ := rtN_ok h2
  have c1 : 2 ^ 70 ≤ rtN m := sq_le' (by rw [← Nat.pow_add]; exact Nat.lt_of_le_of_lt h1 b)
  have c2 : rtN m < 2 ^ 71 := by
    have : rtN m ≤ 2 ^ 71 - 1 := sq_le' (by rw [Nat.sub_add_cancel (by decide), ← Nat.pow_add]; exact Nat.lt_of_le_of_lt a h2)
    have h0 : 0 < 2 ^ 71 := by decide
    omega
  refine ⟨c1, c2, ⟨?_, ?_, by decide⟩⟩
  · unfold rtH; omega
  · unfold rtH; omega
theorem mR_mono {s s' : Int} {M M' : Nat} (h : Mant M) (h' : Mant M') (hle : s < s' ∨ (s = s' ∧ M ≤ M')) : s / 2 < s' / 2 ∨ (s / 2 = s' / 2 ∧ mR s M ≤ mR s' M') := by
  obtain ⟨a, b⟩ := h
  obtain ⟨a', b'⟩ := h'
  by_cases hq : s / 2 < s' / 2
  · exact .inl hq
  · refine .inr ⟨by omega, ?_⟩
    rcases mR_two s M with ⟨p, e⟩ | ⟨p, e⟩ <;> rcases mR_two s' M' with ⟨p', e'⟩ | ⟨p', e'⟩ <;> rw [e, e'] <;> omega
def root12 (k : Int) (neg : Bool) (s : Int) (hi lo : Nat) (rest : Bool) : Value :=
  if k = 2 ∨ neg = true then exV 2 false 0 0 0 false
  else if k = 0 then exV 0 false 0 0 0 false
  else exV 1 false (s / 2) (rtH (mR s (manX hi lo))) 0 (rtR (mR s (manX hi lo)) || rest)
theorem root12_form (k : Int) (neg : Bool) (s : Int) (hi lo : Nat) (rest : Bool) : ∃ k2 b s2 h l r, root12 k neg s hi lo rest = exV k2 b s2 h l r := by
  unfold root12
  split
  · exact ⟨_, _, _, _, _, _, rfl⟩
  · split <;> exact ⟨_, _, _, _, _, _, rfl⟩
def mgT (n : Nat) (s : Int) (M : Nat) : Nat := rndX n (s / 2) (rtH (mR s M)) 0 (rtR (mR s M))
def patT2 (n a : Nat) : Nat := if vK n a = 2 ∨ vB n a = true then 2 ^ (n - 1) else if vK n a = 0 then 0 else mgT n (vS n a) (manX (vF n a) 0)
theorem mgT_range {n : Nat} (s : Int) {M : Nat} (hn : Wd n) (h : Mant M) : 1 ≤ mgT n s M ∧ mgT n s M ≤ 2 ^ (n - 1) - 1 := by
  obtain ⟨a, b⟩ := mR_size s h
  exact rnd_range n _ _ _ _ hn (rt_words a b).2.2
theorem mgT_mono {n : Nat} {s s' : Int} {M M' : Nat} (hn : Wd n) (h : Mant M) (h' : Mant M') (hle : s < s' ∨ (s = s' ∧ M ≤ M')) : mgT n s M ≤ mgT n s' M' := by
  obtain ⟨a, b⟩ := mR_size s h
  obtain ⟨a', b'⟩ := mR_size s' h'
  refine rnd_riseR n _ _ _ _ _ _ _ _ hn (rt_words a b).2.2 (rt_words a' b').2.2 ?_
  rcases mR_mono h h' hle with c | ⟨c, d⟩
  · exact .inl c
  · refine .inr ⟨c, ?_⟩
    have e := rtH_mono b b' d
    have f : ∀ x : Bool, x.toNat ≤ 1 := fun x => by cases x <;> decide
    have f1 := f (rtR (mR s M))
    have f2 := f (rtR (mR s' M'))
    by_cases g : rtH (mR s M) = rtH (mR s' M')
    · rw [g] at e ⊢; omega
    · rw [manX_zero, manX_zero]
      generalize (rtR (mR s M)).toNat = x at *
      generalize (rtR (mR s' M')).toNat = y at *
      generalize rtH (mR s M) = u at *
      generalize rtH (mR s' M') = v at *
      omega
theorem patT2_zero (n a : Nat) (hn : Wd n) (h : vK n a = 0) : patT2 n a = 0 := by
  have hb : vB n a = false := (v_other n a (by rw [h]; decide)).1
  unfold patT2
  rw [if_neg (by rw [h, hb]; decide), if_pos h]
theorem patT2_lt (n a : Nat) (hn : Wd n) (ha : a < 2 ^ 64) : patT2 n a < 2 ^ n ∧ patT2 n a ≤ 2 ^ (n - 1) := by
  obtain ⟨H, p1, p2, p3, _⟩ := wd_pows hn
  unfold patT2
  by_cases h : vK n a = 2 ∨ vB n a = true
  · rw [if_pos h]; omega
  · rw [if_neg h]
    by_cases h0 : vK n a = 0
    · rw [if_pos h0]; omega
    · rw [if_neg h0]
      have k1 := real_or n a hn (fun c => h (.inl c)) h0
      obtain ⟨_, _, _, _, _, _, wa, _⟩ := v_real n a hn ha k1
      have := mgT_range (vS n a) hn wa.mant
      omega
theorem val_order {n a b : Nat} (hn : Wd n) (ha : a < 2 ^ 64) (hb : b < 2 ^ 64) (ka : vK n a = 1) (kb : vK n b = 1) (na : vB n a = false) (nb : vB n b = false) (h : extOf a n ≤ extOf b n) :
    vS n a < vS n b ∨ (vS n a = vS n b ∧ manX (vF n a) 0 ≤ manX (vF n b) 0) := by
  have hv := val_le n a b hn ha hb (by rw [ka]; decide) (by rw [kb]; decide) h
  obtain ⟨_, _, _, _, _, _, wa, s1, s2⟩ := v_real n a hn ha ka
  obtain ⟨_, _, _, _, _, _, wb, t1, t2⟩ := v_real n b hn hb kb
  have hw := wd_le hn
  obtain ⟨a1, a2⟩ := wa.mant
  obtain ⟨b1, b2⟩ := wb.mant
  unfold valI at hv
  rw [if_pos ka, if_pos kb, na, nb] at hv
  simp only [sg, Bool.false_eq_true, if_false] at hv
  rw [← Int.natCast_mul, ← Int.natCast_mul] at hv
  have hv' := Int.ofNat_le.1 hv
  by_cases c : vS n a < vS n b
  · exact .inl c
  · by_cases e : vS n a = vS n b
    · refine .inr ⟨e, ?_⟩
      rw [e] at hv'
      exact Nat.le_of_mul_le_mul_right hv' (Nat.pow_pos (by decide))
    · exfalso
      obtain ⟨d, hd⟩ : ∃ d : Nat, (vS n a + 248).toNat = (vS n b + 248).toNat + 1 + d := ⟨(vS n a - vS n b - 1).toNat, by omega⟩
      rw [hd, Nat.pow_add, Nat.pow_add] at hv'
      have hp : 0 < 2 ^ (vS n b + 248).toNat := Nat.pow_pos (by decide)
      have hq : 0 < 2 ^ d := Nat.pow_pos (by decide)
      have h1 : manX (vF n a) 0 * (2 ^ (vS n b + 248).toNat * 2 ^ 1 * 2 ^ d) = manX (vF n a) 0 * 2 * 2 ^ d * 2 ^ (vS n b + 248).toNat := by
        rw [Nat.pow_one]; simp only [Nat.mul_assoc, Nat.mul_left_comm, Nat.mul_comm]
      rw [h1] at hv'
      have h2 := Nat.le_of_mul_le_mul_right hv' hp
      have h3 : manX (vF n a) 0 * 2 ≤ manX (vF n a) 0 * 2 * 2 ^ d := Nat.le_mul_of_pos_right _ hq
      omega
/-- the top bit is the sign -/
theorem sign_fold (n a : Nat) (hn : Wd n) (ha : a < 2 ^ 64) : 2 ^ (n - 1) ≤ a % 2 ^ n ↔ (vK n a = 2 ∨ vB n a = true) := by
  obtain ⟨H, p1, p2, p3, _⟩ := wd_pows hn
  have hw := wd_le hn
  rcases v_kinds n a hn with ⟨h, hz⟩ | h | ⟨h, hz⟩
  · have hb := (v_other n a (by rw [h]; decide)).1
    rw [hz, h, hb]
    constructor
    · intro c; omega
    · rintro (c | c) <;> exact absurd c (by decide)
  · obtain ⟨e1, _⟩ := v_real n a hn ha h
    have hm := Nat.mod_lt a (show 0 < 2 ^ n by omega)
    have ht := top_of n _ hn hm
    rw [← testBit_low a n (by omega), ← e1] at ht
    rw [ht, h]
    simp
  · rw [hz, h]; simp
theorem patT2_rise (n a b : Nat) (hn : Wd n) (ha : a < 2 ^ 64) (hb : b < 2 ^ 64) (fa : a % 2 ^ n < 2 ^ (n - 1)) (fb : b % 2 ^ n < 2 ^ (n - 1)) (h : extOf a n ≤ extOf b n) : patT2 n a ≤ patT2 n b := by
  have na : ¬ (vK n a = 2 ∨ vB n a = true) := fun c => by have := (sign_fold n a hn ha).2 c; omega
  have nb : ¬ (vK n b = 2 ∨ vB n b = true) := fun c => by have := (sign_fold n b hn hb).2 c; omega
  by_cases a0 : vK n a = 0
  · rw [patT2_zero n a hn a0]; exact Nat.zero_le _
  · have ka := real_or n a hn (fun c => na (.inl c)) a0
    have va : vB n a = false := by cases e : vB n a; rfl; exact absurd (.inr e) na
    obtain ⟨_, _, _, _, _, _, wa, _⟩ := v_real n a hn ha ka
    by_cases b0 : vK n b = 0
    · exfalso
      have hv := val_le n a b hn ha hb (by rw [ka]; decide) (by rw [b0]; decide) h
      rw [val_zero n b (by rw [b0]; decide)] at hv
      unfold valI at hv
      rw [if_pos ka, va] at hv
      simp only [sg, Bool.false_eq_true, if_false] at hv
      rw [← Int.natCast_mul] at hv
      have h1 := wa.mant.1
      have h2 : 0 < manX (vF n a) 0 * 2 ^ (vS n a + 248).toNat := Nat.mul_pos (Nat.lt_of_lt_of_le (by decide) h1) (Nat.pow_pos (by decide))
      omega
    · have kb := real_or n b hn (fun c => nb (.inl c)) b0
      have vb : vB n b = false := by cases e : vB n b; rfl; exact absurd (.inr e) nb
      obtain ⟨_, _, _, _, _, _, wb, _⟩ := v_real n b hn hb kb
      unfold patT2
      rw [if_neg na, if_neg nb, if_neg a0, if_neg b0]
      exact mgT_mono hn wa.mant wb.mant (val_order hn ha hb ka kb va vb h)
theorem patT2_low (n a : Nat) (hn : Wd n) (ha : a < 2 ^ 64) (fa : a % 2 ^ n < 2 ^ (n - 1)) : patT2 n a < 2 ^ (n - 1) := by
  obtain ⟨H, p1, p2, p3, _⟩ := wd_pows hn
  have na : ¬ (vK n a = 2 ∨ vB n a = true) := fun c => by have := (sign_fold n a hn ha).2 c; omega
  unfold patT2
  rw [if_neg na]
  by_cases h0 : vK n a = 0
  · rw [if_pos h0]; omega
  · rw [if_neg h0]
    have k1 := real_or n a hn (fun c => na (.inl c)) h0
    obtain ⟨_, _, _, _, _, _, wa, _⟩ := v_real n a hn ha k1
    have := mgT_range (vS n a) hn wa.mant
    omega
theorem patT2_nar (n a : Nat) (hn : Wd n) (ha : a < 2 ^ 64) (fa : 2 ^ (n - 1) ≤ a % 2 ^ n) : patT2 n a = 2 ^ (n - 1) := by
  unfold patT2; rw [if_pos ((sign_fold n a hn ha).1 fa)]
/-- the root of a square -/
theorem square_root {f : Nat} (h : WordsX f 0) (s : Int) : rtH (mR (2 * s - 126 + blen (f * f) - 1) (normN (f * f))) = f ∧ rtR (mR (2 * s - 126 + blen (f * f) - 1) (normN (f * f))) = false ∧ (2 * s - 126 + blen (f * f) - 1) / 2 = s ∧ lostN (f * f) = false := by
  have h1 := h.top
  have h2 := h.hi64
  have hl : 2 ^ 126 ≤ f * f := by
    have := Nat.mul_le_mul h1 h1
    exact Nat.le_trans (by decide) this
  have hu : f * f < 2 ^ 128 := by
    have := Nat.mul_lt_mul_of_lt_of_lt h2 h2
    exact Nat.lt_of_lt_of_le this (by decide)
  have key : mR (2 * s - 126 + blen (f * f) - 1) (normN (f * f)) = f * f * 2 ^ 14 ∧ (2 * s - 126 + blen (f * f) - 1) / 2 = s ∧ lostN (f * f) = false := by
    by_cases c : f * f < 2 ^ 127
    · have hb : blen (f * f) = 127 := blen_at (m := 126) hl c
      have hn : normN (f * f) = f * f * 2 ^ 1 := by unfold normN; rw [hb, if_pos (by decide)]
      have hlo : lostN (f * f) = false := by unfold lostN; rw [hb, decide_eq_false (by omega), Bool.false_and]
      refine ⟨?_, by rw [hb]; omega, hlo⟩
      rw [hb, hn]
      rcases mR_two (2 * s - 126 + ((127 : Nat) : Int) - 1) (f * f * 2 ^ 1) with ⟨p, e⟩ | ⟨p, e⟩
      · rw [e, Nat.mul_assoc]
      · exfalso; clear hl hu c hb hn hlo e h1 h2; omega
    · have hb : blen (f * f) = 128 := blen_at (m := 127) (by omega) hu
      have hn : normN (f * f) = f * f := by unfold normN; rw [hb, if_neg (by decide)]; simp
      have hlo : lostN (f * f) = false := by unfold lostN; rw [hb, decide_eq_false (by omega), Bool.false_and]
      refine ⟨?_, by rw [hb]; omega, hlo⟩
      rw [hb, hn]
      rcases mR_two (2 * s - 126 + ((128 : Nat) : Int) - 1) (f * f) with ⟨p, e⟩ | ⟨p, e⟩
      · exfalso; clear hl hu c hb hn hlo e h1 h2; omega
      · rw [e]
  obtain ⟨e, e2, e3⟩ := key
  rw [e]
  have hm : f * f * 2 ^ 14 < 2 ^ 142 := by omega
  have hr : f = rtH (f * f * 2 ^ 14) := rtH_one hm (Nat.le_refl _) (Nat.mul_lt_mul_of_pos_right (Nat.mul_lt_mul_of_lt_of_lt (by omega) (by omega)) (by decide))
  refine ⟨hr.symm, ?_, e2, e3⟩
  unfold rtR
  rw [← hr]
  simp
end Go.Proofs.Ytheliihkkoohnaa
