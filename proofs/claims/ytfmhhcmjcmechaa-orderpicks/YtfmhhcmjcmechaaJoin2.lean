import Derived.Test.YtfmhhcmjcmechaaJoin1
namespace Go.Proofs.Ytfmhhcmjcmechaa
open Go.ChangeShapes Go.WideShapes Go.ChangeAt Go.RowKit
set_option linter.unusedVariables false
set_option linter.unusedSimpArgs false
set_option maxRecDepth 100000

/-! ### ranks (plain mathematics) -/
theorem extOf_val (n x : Nat) (hn : Wd n) : extOf x n = if x % 2 ^ n < 2 ^ (n - 1) then ((x % 2 ^ n : Nat) : Int) else ((x % 2 ^ n : Nat) : Int) - ((2 ^ n : Nat) : Int) := by
  obtain ⟨H, h1, h2, h3, _⟩ := wd_pows hn
  have hw := wd_le hn
  have hm := Nat.mod_lt x (show 0 < 2 ^ n by omega)
  have ht := top_of n _ hn hm
  rw [← testBit_low x n (by omega)] at ht
  unfold extOf
  rw [ht]
  by_cases h : x % 2 ^ n < 2 ^ (n - 1)
  · rw [if_pos h, decide_eq_false (by omega)]; simp
  · rw [if_neg h, decide_eq_true (by omega)]; simp
theorem mod_mod64 (n z : Nat) (hn : Wd n) : z % 2 ^ 64 % 2 ^ n = z % 2 ^ n := Nat.mod_mod_of_dvd z (Nat.pow_dvd_pow 2 (wd_le hn).2)
theorem rank_range (n x : Nat) (hn : Wd n) : ∃ H : Nat, 2 ^ n = 2 * H ∧ 2 ^ (n - 1) = H ∧ 128 ≤ H ∧ -(H : Int) ≤ extOf x n ∧ extOf x n ≤ (H : Int) - 1 ∧ (narB n x = true ↔ extOf x n = -(H : Int)) ∧ H ≤ 9223372036854775808 := by
  obtain ⟨H, h1, h2, h3, q, hq, hq1⟩ := wd_pows hn
  have hm := Nat.mod_lt x (show 0 < 2 ^ n by omega)
  refine ⟨H, h1, h2, h3, ?_, ?_, ?_, ?_⟩
  · rw [extOf_val n x hn]; split <;> omega
  · rw [extOf_val n x hn]; split <;> omega
  · rw [extOf_val n x hn]
    unfold narB
    rw [decide_eq_true_eq]
    constructor
    · intro h; rw [if_neg (by omega)]; omega
    · intro h; split at h <;> omega
  · have := (two_pow_lt hn).2; omega
theorem rank_mod (n x : Nat) (hn : Wd n) : extOf (x % 2 ^ n) n = extOf x n := by
  rw [extOf_val n _ hn, extOf_val n x hn, Nat.mod_mod]
theorem rank_next (n p : Nat) (hn : Wd n) (H : Nat) (h2 : 2 ^ (n - 1) = H) : extOf (nextO n p) n = if extOf p n = -(H : Int) ∨ extOf p n = (H : Int) - 1 then extOf p n else extOf p n + 1 := by
  obtain ⟨H', h1, h2', h3, q, hq, hq1⟩ := wd_pows hn
  have hH : H' = H := by omega
  subst hH
  have hm := Nat.mod_lt p (show 0 < 2 ^ n by omega)
  unfold nextO stepO
  rw [mod_mod64 n _ hn]
  have e := extOf_val n p hn
  by_cases hc : p % 2 ^ n = 2 ^ (n - 1) ∨ p % 2 ^ n = 2 ^ (n - 1) - 1
  · rw [if_pos hc, rank_mod n p hn, if_pos (by rw [e]; split <;> omega)]
  · rw [if_neg hc, if_neg (by rw [e]; split <;> omega), extOf_val n _ hn, Nat.mod_mod, e]
    rw [h1] at *
    generalize p % (2 * H') = y at *
    by_cases h : y + 1 = 2 * H'
    · rw [h, Nat.mod_self]
      rw [if_pos (by omega), if_neg (by omega)]; omega
    · rw [Nat.mod_eq_of_lt (by omega)]
      split <;> split <;> omega
theorem rank_prev (n p : Nat) (hn : Wd n) (H : Nat) (h2 : 2 ^ (n - 1) = H) : extOf (prevO n p) n = if extOf p n = -(H : Int) ∨ extOf p n = 1 - (H : Int) then extOf p n else extOf p n - 1 := by
  obtain ⟨H', h1, h2', h3, q, hq, hq1⟩ := wd_pows hn
  have hH : H' = H := by omega
  subst hH
  have hm := Nat.mod_lt p (show 0 < 2 ^ n by omega)
  have hle := (two_pow_lt hn).2
  unfold prevO stepO
  rw [mod_mod64 n _ hn, Nat.mod_eq_of_lt (show 2 ^ (n - 1) + 1 < 2 ^ 64 by omega)]
  have e := extOf_val n p hn
  by_cases hc : p % 2 ^ n = 2 ^ (n - 1) ∨ p % 2 ^ n = 2 ^ (n - 1) + 1
  · rw [if_pos hc, rank_mod n p hn, if_pos (by rw [e]; split <;> omega)]
  · rw [if_neg hc, if_neg (by rw [e]; split <;> omega), extOf_val n _ hn, Nat.mod_mod, e]
    rw [h1] at *
    generalize p % (2 * H') = y at *
    by_cases h : y = 0
    · subst h
      have e2 : (0 + 18446744073709551615) % (2 * H') = 2 * H' - 1 := by
        rw [show 0 + 18446744073709551615 = (2 * H' - 1) + (2 * H') * (q - 1) by
          have : (2 * H') * (q - 1) + 2 * H' = 18446744073709551616 := by rw [← Nat.mul_succ, show (q - 1).succ = q by omega, hq, Nat.mul_comm]
          omega, Nat.add_mul_mod_self_left, Nat.mod_eq_of_lt (by omega)]
      rw [e2, if_neg (by omega), if_pos (by omega)]; omega
    · have e2 : (y + 18446744073709551615) % (2 * H') = y - 1 := by
        rw [show y + 18446744073709551615 = (y - 1) + (2 * H') * q by
          have : (2 * H') * q = 18446744073709551616 := by rw [hq, Nat.mul_comm]
          omega, Nat.add_mul_mod_self_left, Nat.mod_eq_of_lt (by omega)]
      rw [e2]
      split <;> split <;> omega
theorem rank_min (n a b : Nat) (hn : Wd n) : extOf (minO n a b) n = min (extOf a n) (extOf b n) := by
  unfold minO
  rcases cmpR_cases n a b with ⟨h, h2⟩ | ⟨h, h2⟩ | ⟨h, h2⟩ <;> rw [h]
  · rw [if_pos (by decide), rank_mod n a hn]; omega
  · rw [if_neg (by decide), rank_mod n b hn]; omega
  · rw [if_neg (by decide), rank_mod n b hn]; omega
theorem rank_max (n a b : Nat) (hn : Wd n) : extOf (maxO n a b) n = max (extOf a n) (extOf b n) := by
  unfold maxO
  rcases cmpR_cases n a b with ⟨h, h2⟩ | ⟨h, h2⟩ | ⟨h, h2⟩ <;> rw [h]
  · rw [if_neg (by decide), rank_mod n b hn]; omega
  · rw [if_pos (by decide), rank_mod n a hn]; omega
  · rw [if_neg (by decide), rank_mod n b hn]; omega
theorem rank_neg (n p : Nat) (hn : Wd n) (hp : p < 2 ^ 64) (hk : narB n p = false) : extOf (negO n p) n = -extOf p n := by
  obtain ⟨H, h1, h2, h3, _⟩ := wd_pows hn
  have hm := Nat.mod_lt p (show 0 < 2 ^ n by omega)
  unfold negO
  rw [minusU_mod n p hn hp, extOf_val n _ hn, extOf_val n p hn, Nat.mod_mod]
  unfold narB at hk
  have hk2 : ¬ p % 2 ^ n = 2 ^ (n - 1) := of_decide_eq_false hk
  rw [h1, h2] at *
  generalize p % (2 * H) = y at *
  by_cases h : y = 0
  · subst h; rw [Nat.sub_zero, Nat.mod_self, if_pos (by omega)]; simp
  · rw [Nat.mod_eq_of_lt (a := 2 * H - y) (by omega)]
    split <;> split <;> omega
/-- one on and one back; Min, Max, Clamp -/
theorem chain_facts (n p q : Nat) (hn : Wd n) :
    (cmpR n p (nextO n p) ≤ 0 ∧ stepsO n p (nextO n p) ≤ 1 ∧ (cmpR n p (nextO n p) = 0 ↔ stepsO n p (nextO n p) = 0)) ∧
    (stepsO n p (nextO n p) = 1 → cmpR n p (prevO n (nextO n p)) = 0) ∧
    stepsO n (minO n p q) (maxO n p q) = stepsO n q p ∧
    (∀ A, ((clampV n A (minO n p q) (maxO n p q)).1 = 9 ∧ (clampV n A (minO n p q) (maxO n p q)).2 = 0) ∨ ((clampV n A (minO n p q) (maxO n p q)).1 = 0 ∧ 0 ≤ cmpR n (clampV n A (minO n p q) (maxO n p q)).2 (minO n p q) ∧ 0 ≤ cmpR n (maxO n p q) (clampV n A (minO n p q) (maxO n p q)).2)) := by
  obtain ⟨H, h1, h2, h3, r1, r2, r3, h4⟩ := rank_range n p hn
  have e1 := rank_next n p hn H h2
  have e2 := rank_prev n (nextO n p) hn H h2
  have c1 := cmpR_cases n p (nextO n p)
  have c2 := cmpR_cases n p (prevO n (nextO n p))
  have s1 : stepsO n p (nextO n p) = u64Of (if extOf p n < extOf (nextO n p) n then extOf (nextO n p) n - extOf p n else extOf p n - extOf (nextO n p) n) := rfl
  have us : ∀ t : Int, 0 ≤ t → t ≤ 18446744073709551615 → ((u64Of t : Nat) : Int) = t := fun t a b => by unfold u64Of; omega
  have hs : (stepsO n p (nextO n p) = 0 ∧ extOf (nextO n p) n = extOf p n) ∨ (stepsO n p (nextO n p) = 1 ∧ extOf (nextO n p) n = extOf p n + 1) := by
    rw [s1]
    by_cases hc : extOf p n = -(H : Int) ∨ extOf p n = (H : Int) - 1
    · rw [if_pos hc] at e1
      rw [e1]
      refine .inl ⟨?_, rfl⟩
      rw [if_neg (by omega), Int.sub_self]; rfl
    · rw [if_neg hc] at e1
      rw [e1]
      refine .inr ⟨?_, rfl⟩
      rw [if_pos (by omega)]
      have := us (extOf p n + 1 - extOf p n) (by omega) (by omega)
      omega
  refine ⟨⟨?_, ?_, ?_⟩, ?_, ?_, ?_⟩
  · rcases c1 with ⟨a, b⟩ | ⟨a, b⟩ | ⟨a, b⟩ <;> rcases hs with ⟨s, t⟩ | ⟨s, t⟩ <;> omega
  · rcases hs with ⟨s, t⟩ | ⟨s, t⟩ <;> omega
  · rcases c1 with ⟨a, b⟩ | ⟨a, b⟩ | ⟨a, b⟩ <;> rcases hs with ⟨s, t⟩ | ⟨s, t⟩ <;> omega
  · intro hs1
    have ht : extOf (nextO n p) n = extOf p n + 1 := by rcases hs with ⟨s, t⟩ | ⟨s, t⟩ <;> omega
    have hb : extOf (prevO n (nextO n p)) n = extOf p n := by
      rw [e2, ht]
      by_cases hc : extOf p n = -(H : Int)
      · rw [if_pos (.inl hc)] at e1; omega
      · rw [if_neg (by omega)]; omega
    rcases c2 with ⟨a, b⟩ | ⟨a, b⟩ | ⟨a, b⟩ <;> omega
  · unfold stepsO
    rw [rank_min n p q hn, rank_max n p q hn]
    congr 1
    split <;> split <;> omega
  · intro A
    unfold clampV
    by_cases hc : narB n A = true ∨ narB n (minO n p q) = true ∨ narB n (maxO n p q) = true
    · rw [if_pos hc]; exact .inl ⟨rfl, rfl⟩
    · rw [if_neg hc]
      have hle : ¬ 0 < cmpR n (minO n p q) (maxO n p q) := by
        have m1 := rank_min n p q hn
        have m2 := rank_max n p q hn
        rcases cmpR_cases n (minO n p q) (maxO n p q) with ⟨a, b⟩ | ⟨a, b⟩ | ⟨a, b⟩ <;> omega
      rw [if_neg hle]
      refine .inr ⟨rfl, ?_, ?_⟩
      · show 0 ≤ cmpR n (minO n (maxO n A (minO n p q)) (maxO n p q)) (minO n p q)
        have m1 := rank_min n (maxO n A (minO n p q)) (maxO n p q) hn
        have m2 := rank_max n A (minO n p q) hn
        have m3 := rank_max n p q hn
        have m4 := rank_min n p q hn
        rcases cmpR_cases n (minO n (maxO n A (minO n p q)) (maxO n p q)) (minO n p q) with ⟨a, b⟩ | ⟨a, b⟩ | ⟨a, b⟩ <;> omega
      · show 0 ≤ cmpR n (maxO n p q) (minO n (maxO n A (minO n p q)) (maxO n p q))
        have m1 := rank_min n (maxO n A (minO n p q)) (maxO n p q) hn
        rcases cmpR_cases n (maxO n p q) (minO n (maxO n A (minO n p q)) (maxO n p q)) with ⟨a, b⟩ | ⟨a, b⟩ | ⟨a, b⟩ <;> omega
end Go.Proofs.Ytfmhhcmjcmechaa

namespace Go.Proofs.Ytfmhhcmjcmechaa
open Go.ChangeShapes Go.WideShapes Go.ChangeAt Go.RowKit
set_option linter.unusedVariables false
set_option linter.unusedSimpArgs false
set_option maxRecDepth 100000

/-! ### package order: ranks, what is known of a width, patterns of ranks -/
abbrev codeO (c : Int) : Value := .iface 49 (.int .i64 c)
theorem home_of (n : Nat) (hn : Wd n) (x : Nat) : u64Of (extOf x n) % 2 ^ n = x % 2 ^ n := by
  rw [extOf_val n x hn]
  rcases hn with rfl | rfl | rfl | rfl <;> (unfold u64Of; simp only [Nat.reducePow, Nat.reduceSub]; split <;> omega)
theorem patok_of (n : Nat) (hn : Wd n) (x : Nat) : patOk n (extOf x n) = true := by
  unfold patOk
  rw [home_of n hn, rank_mod n x hn]
  simp
theorem opat_ok (n x : Nat) (hn : Wd n) (w : World) :
    Calls Try.prog 35 #[.int .i64 n, .int .i64 (extOf x n)] w fun e w' => e = .returned (.tuple #[.int .u64 (x % 2 ^ n : Nat), .nilIface]) ∧ Below w.heap.size w w' := by
  have k := pattern_ok n (extOf x n) hn (patok_of n hn x) w
  rw [home_of n hn] at k
  exact k
theorem onan_any (x : Int) (w : World) : Calls Try.prog 46 #[.int .i64 x] w fun e w' => e = .returned (.bool false) ∧ w' = w := by
  refine cps fun Q hQ => ?_
  go_enter Try.func46, Try.ntmps46
  go_wp2
  exact hQ.out _ _ ⟨by simp, rfl⟩
theorem ocompare_any (x y c : Int) (h : (c = -1 ∧ x < y) ∨ (c = 1 ∧ y < x) ∨ (c = 0 ∧ x = y)) (w : World) : Calls Try.prog 32 #[.int .i64 x, .int .i64 y] w fun e w' => e = .returned (.int .i64 c) ∧ w' = w := by
  refine cps fun Q hQ => ?_
  rcases h with ⟨rfl, h⟩ | ⟨rfl, h⟩ | ⟨rfl, rfl⟩
  · have d1 : decide (x < y) = true := decide_eq_true h
    clear h
    go_enter Try.func32, Try.ntmps32
    go_wp2_with (go_at_call 46; refine (onan_any _ _).mono ?_; rintro e w' ⟨rfl, hw⟩; rw [hw]; clear hw w')
    exact hQ.out _ _ ⟨rfl, rfl⟩
  · have d1 : decide (x < y) = false := decide_eq_false (by omega)
    have d2 : decide (y < x) = true := decide_eq_true h
    clear h
    go_enter Try.func32, Try.ntmps32
    go_wp2_with (go_at_call 46; refine (onan_any _ _).mono ?_; rintro e w' ⟨rfl, hw⟩; rw [hw]; clear hw w')
    exact hQ.out _ _ ⟨rfl, rfl⟩
  · have d1 : decide (x < x) = false := decide_eq_false (by omega)
    go_enter Try.func32, Try.ntmps32
    go_wp2_with (go_at_call 46; refine (onan_any _ _).mono ?_; rintro e w' ⟨rfl, hw⟩; rw [hw]; clear hw w')
    exact hQ.out _ _ ⟨rfl, rfl⟩
theorem oranks_no (n : Int) (a b : Nat) (hn : isW n = false) (w : World) :
    Calls Try.prog 31 #[.int .i64 n, .int .u64 a, .int .u64 b] w fun e w' => e = .returned (.tuple #[.int .i64 0, .int .i64 0, codeO 2]) ∧ Below w.heap.size w w' := by
  have k1 := rank_no n a hn
  clear hn
  refine cps fun Q hQ => ?_
  go_enter Try.func31, Try.ntmps31
  go_wp2_with (go_at_call 41; refine (k1 _).mono ?_; rintro e w1 ⟨rfl, hb1⟩)
  go_ret3
  exact hQ.out _ _ ⟨rfl, hb1⟩
theorem oranks_ok (n a b : Nat) (hn : Wd n) (w : World) :
    Calls Try.prog 31 #[.int .i64 n, .int .u64 a, .int .u64 b] w fun e w' => e = .returned (.tuple #[.int .i64 (extOf a n), .int .i64 (extOf b n), .nilIface]) ∧ Below w.heap.size w w' := by
  have k1 := rank_ok n a hn
  have k2 := rank_ok n b hn
  clear hn
  refine cps fun Q hQ => ?_
  generalize extOf a n = x at *
  generalize extOf b n = y at *
  go_enter Try.func31, Try.ntmps31
  go_wp2_with (first
    | (go_at_call 41; have chk := hb1; refine (k2 _).mono ?_; rintro e w2 ⟨rfl, hb2⟩)
    | (go_at_call 41; refine (k1 _).mono ?_; rintro e w1 ⟨rfl, hb1⟩))
  go_ret3
  exact hQ.out _ _ ⟨rfl, bthenS hb1 hb2⟩
theorem cset5 {a W : World} {m : Nat} {v0 v1 v2 v3 v4 : Value} (h : Below a.heap.size a W) (hb : a.heap.size ≤ m) :
    Below a.heap.size a (((((W.setCell ⟨m, 0, none⟩ v0).setCell ⟨m, 1, none⟩ v1).setCell ⟨m, 2, none⟩ v2).setCell ⟨m, 3, none⟩ v3).setCell ⟨m, 4, none⟩ v4) :=
  cset (cset (cset (cset (cset h hb 0 v0) hb 1 v1) hb 2 v2) hb 3 v3) hb 4 v4
theorem oknown_no (n : Int) (p : Nat) (hn : isW n = false) (w : World) :
    Calls Try.prog 37 #[.int .i64 n, .int .u64 p] w fun e w' => e = .returned (.tuple #[shp0, .int .u64 0, codeO 2]) ∧ Below w.heap.size w w' := by
  have k1 := of_no n hn
  unfold shp0 at *
  clear hn
  refine cps fun Q hQ => ?_
  go_enter Try.func37, Try.ntmps37
  go_wp2_with (go_at_call 49; refine (k1 _).mono ?_; rintro e w1 ⟨rfl, hb1⟩; have HB1 : Hid (Below _ _ _) := hb1; have R0 := (hb1.block w.heap.size (by simp)).trans (rownew w _ _); have b0 := rowcell R0 0; have b1 := rowcell R0 1; have b2 := rowcell R0 2; have b3 := rowcell R0 3; have b4 := rowcell R0 4; have bf := rowfree R0; simp only [List.getElem?_toArray, List.getElem?_cons_zero, List.getElem?_cons_succ] at b0 b1 b2 b3 b4; have z1 : w.heap.size < w1.heap.size := (by have := hb1.size; simp at this; omega); have hne1 : ¬ w.heap.size = w1.heap.size := (by omega); have hne2 : ¬ w1.heap.size = w.heap.size := (by omega); clear hb1 R0)
  refine bodyPost_ret (v := .tuple #[.agg #[.int .i64 0, .int .u64 0, .int .u64 0, .int .u64 0, .int .i64 0], .int .u64 0, codeO 2]) (by simp [results, Try.results37, go_sem, b0, b1, b2, b3, b4, hne1, hne2, z1]) rfl (hQ.out _ _ ⟨rfl, ?_⟩)
  exact cmore (cset5 (cthen (cmore (Below.refl _ _) _) HB1.out) (Nat.le_refl _)) _
theorem oknown_ok (n p : Nat) (hn : Wd n) (hp : p < 2 ^ 64) (w : World) :
    Calls Try.prog 37 #[.int .i64 n, .int .u64 p] w fun e w' => e = .returned (.tuple #[shp n (2 ^ (n - 1)), .int .u64 (p % 2 ^ n : Nat), .nilIface]) ∧ Below w.heap.size w w' := by
  have k1 := of_ok n hn
  have k2 := fold_ok n p hn hp
  unfold shp at *
  clear hn hp
  generalize p % 2 ^ n = x at *
  generalize 2 ^ (n - 1) = m at *
  refine cps fun Q hQ => ?_
  go_enter Try.func37, Try.ntmps37
  go_wp2_with (first
    | (go_at_call 49; refine (k1 _).mono ?_; rintro e w1 ⟨rfl, hb1⟩; have HB1 : Hid (Below _ _ _) := hb1; have R0 : Hid (w1.heap[w.heap.size]? = _) := (hb1.block w.heap.size (by simp)).trans (rownew w _ _); have z1 : w.heap.size < w1.heap.size := (by have := hb1.size; simp at this; omega); clear hb1)
    | (go_at_call 38; refine (k2 _).mono ?_; rintro e w2 ⟨rfl, hb2⟩; have HB2 : Hid (Below _ _ _) := hb2; have R1 := (hb2.block w.heap.size (by simp; omega)).trans ((Below.heap_alloc w1 _ _ z1).trans R0.out); have b0 := rowcell R1 0; have b1 := rowcell R1 1; have b2 := rowcell R1 2; have b3 := rowcell R1 3; have b4 := rowcell R1 4; have bf := rowfree R1; simp only [List.getElem?_toArray, List.getElem?_cons_zero, List.getElem?_cons_succ] at b0 b1 b2 b3 b4; have R2 := (hb2.block w1.heap.size (by simp)).trans (rownew w1 _ _); have c0 := rowcell R2 0; have c1 := rowcell R2 1; have c2 := rowcell R2 2; have c3 := rowcell R2 3; have c4 := rowcell R2 4; have cf := rowfree R2; simp only [List.getElem?_toArray, List.getElem?_cons_zero, List.getElem?_cons_succ] at c0 c1 c2 c3 c4; clear hb2 R1 R2))
  refine bodyPost_ret (v := .tuple #[.agg #[.int .i64 n, .int .u64 (m - 1 : Nat), .int .u64 1, .int .u64 m, .int .i64 (4 * n - 8 : Nat)], .int .u64 x, .nilIface]) (by simp [results, Try.results37, go_sem, b0, b1, b2, b3, b4]) rfl (hQ.out _ _ ⟨rfl, ?_⟩)
  exact cset5 (cthen (cmore (cthen (cmore (Below.refl _ _) _) HB1.out) _) HB2.out) (Nat.le_refl _)
end Go.Proofs.Ytfmhhcmjcmechaa

namespace Go.Proofs.Ytfmhhcmjcmechaa
open Go.ChangeShapes Go.WideShapes Go.ChangeAt Go.RowKit
set_option linter.unusedVariables false
set_option linter.unusedSimpArgs false
set_option maxRecDepth 100000

theorem kind_nar (n x : Nat) (hn : Wd n) : (kindOf n (x % 2 ^ n) == 2) = narB n x := by
  unfold kindOf narB
  have hp := two_pow_lt hn
  by_cases h : x % 2 ^ n = 0
  · rw [if_pos h, h, decide_eq_false (by omega)]; rfl
  · rw [if_neg h]
    by_cases h2 : x % 2 ^ n = 2 ^ (n - 1)
    · rw [if_pos h2, decide_eq_true h2]; rfl
    · rw [if_neg h2, decide_eq_false h2]; rfl
set_option maxHeartbeats 1000000 in
theorem orefuse_ok (n : Nat) (hn : Wd n) (l : List Nat) (hl : ∀ x ∈ l, x < 2 ^ 64) (hlen : l.length ≤ 1099511627776) (g c : Nat) (w : World) (hg : g < w.heap.size) (h : ∀ j (hj : j < l.length), w.cell? ⟨g, j, none⟩ = some (.int .u64 (l[j] : Nat))) :
    Calls Try.prog 42 #[.int .i64 n, .slice (some ⟨g, 0, none⟩) l.length c] w fun e w' => e = .returned (if l.any (narB n) then codeO 9 else .nilIface) ∧ Below w.heap.size w w' := by
  refine cps fun Q hQ => ?_
  have H : Hid (∀ j (hj : j < l.length), w.cell? ⟨g, j, none⟩ = some (.int .u64 (l[j] : Nat))) := h
  have HL : Hid (∀ x ∈ l, x < 2 ^ 64) := hl
  have HN : Hid (Wd n) := hn
  clear h hl hn
  go_enter Try.func42, Try.ntmps42
  go_wp2
  go_loopw [11] (fun iv wr => ∃ i : Nat, i ≤ l.length ∧ iv = .int .i64 i ∧ Hid (∀ j (hj : j < l.length), j < i → narB n l[j] = false) ∧ Hid (Below w.heap.size w wr)) (fun iv _ => l.length - (intOf iv).toNat)
  case atStart => exact ⟨0, Nat.zero_le _, rfl, fun j hj h => by omega, Below.refl _ _⟩
  case round =>
    obtain ⟨i, hi, rfl, hst, hbl⟩ := hrel
    by_cases hlt : i < l.length
    · have hc := H.out i hlt
      rw [← hbl.out.cell (p := ⟨g, i, none⟩) hg] at hc
      have k1 := fun W => kind_ok n l[i] HN.out (HL.out _ (List.getElem_mem hlt)) W
      have hk := kind_nar n l[i] HN.out
      obtain ⟨x, hx⟩ : ∃ x, x = l[i] := ⟨_, rfl⟩
      rw [← hx] at hc k1 hk
      have HX : Hid (x = l[i]) := hx
      clear hx
      generalize kindOf n (x % 2 ^ n) = k at *
      cases hb : narB n x
      · rw [hb] at hk
        have HB : Hid (narB n x = false) := hb
        clear hb
        go_wp2_with (go_at_call 54; refine (k1 _).mono ?_; rintro e w1 ⟨rfl, hb1⟩)
        go_roundw
        case rel => exact ⟨i + 1, by omega, by go_num, fun j hj h => by
          by_cases e : j = i
          · subst e; rw [← HX.out]; exact HB.out
          · exact hst.out j hj (by omega), hbl.out.trans (hb1.mono hbl.out.size)⟩
        case measure => simp [intOf]; omega
      · rw [hb] at hk
        have hif : l.any (narB n) = true := List.any_eq_true.2 ⟨x, HX.out ▸ List.getElem_mem hlt, hb⟩
        rw [hif, if_pos rfl] at hQ
        clear hb hif
        go_wp2_with (go_at_call 54; refine (k1 _).mono ?_; rintro e w1 ⟨rfl, hb1⟩)
        exact hQ.out _ _ ⟨rfl, hbl.out.trans (hb1.mono hbl.out.size)⟩
    · have hif : l.any (narB n) = false := by
        rw [List.any_eq_false]
        intro x hx
        obtain ⟨j, hj, e⟩ := List.getElem_of_mem hx
        rw [← e, hst.out j hj (by omega)]
        decide
      rw [hif, if_neg (by decide)] at hQ
      clear hif
      go_wp2
      exact hQ.out _ _ ⟨rfl, hbl.out⟩
theorem orefuse_no (n : Int) (hn : isW n = false) (x : Nat) (k g c : Nat) (hk : 1 ≤ k) (w : World) (h : w.cell? ⟨g, 0, none⟩ = some (.int .u64 (x : Nat))) :
    Calls Try.prog 42 #[.int .i64 n, .slice (some ⟨g, 0, none⟩) k c] w fun e w' => e = .returned (codeO 2) ∧ Below w.heap.size w w' := by
  have k1 := kind_no n x hn
  refine cps fun Q hQ => ?_
  clear hn
  go_enter Try.func42, Try.ntmps42
  go_wp2
  go_loopw [11] (fun iv wr => iv = .int .i64 0 ∧ wr = w) (fun iv _ => 1)
  case atStart => exact ⟨rfl, rfl⟩
  case round =>
    obtain ⟨rfl, rfl⟩ := hrel
    go_wp2_with (go_at_call 54; refine (k1 _).mono ?_; rintro e w1 ⟨rfl, hb1⟩)
    exact hQ.out _ _ ⟨rfl, hb1⟩
theorem ocmp_no (n : Int) (a b : Nat) (hn : isW n = false) (w : World) :
    Calls Try.prog 10 #[.int .i64 n, .int .u64 a, .int .u64 b] w fun e w' => e = .returned (.tuple #[.int .i64 0, codeO 2]) ∧ Below w.heap.size w w' := by
  have k1 := oranks_no n a b hn
  clear hn
  refine cps fun Q hQ => ?_
  go_enter Try.func10, Try.ntmps10
  go_wp2_with (go_at_call 31; refine (k1 _).mono ?_; rintro e w1 ⟨rfl, hb1⟩)
  exact hQ.out _ _ ⟨rfl, hb1⟩
theorem omin_no (n : Int) (a b : Nat) (hn : isW n = false) (w : World) :
    Calls Try.prog 13 #[.int .i64 n, .int .u64 a, .int .u64 b] w fun e w' => e = .returned (.tuple #[.int .u64 0, codeO 2]) ∧ Below w.heap.size w w' := by
  have k1 := oranks_no n a b hn
  clear hn
  refine cps fun Q hQ => ?_
  go_enter Try.func13, Try.ntmps13
  go_wp2_with (go_at_call 31; refine (k1 _).mono ?_; rintro e w1 ⟨rfl, hb1⟩)
  exact hQ.out _ _ ⟨rfl, hb1⟩
theorem omax_no (n : Int) (a b : Nat) (hn : isW n = false) (w : World) :
    Calls Try.prog 14 #[.int .i64 n, .int .u64 a, .int .u64 b] w fun e w' => e = .returned (.tuple #[.int .u64 0, codeO 2]) ∧ Below w.heap.size w w' := by
  have k1 := oranks_no n a b hn
  clear hn
  refine cps fun Q hQ => ?_
  go_enter Try.func14, Try.ntmps14
  go_wp2_with (go_at_call 31; refine (k1 _).mono ?_; rintro e w1 ⟨rfl, hb1⟩)
  exact hQ.out _ _ ⟨rfl, hb1⟩
theorem onext_no (n : Int) (p : Nat) (hn : isW n = false) (w : World) :
    Calls Try.prog 17 #[.int .i64 n, .int .u64 p] w fun e w' => e = .returned (.tuple #[.int .u64 0, codeO 2]) ∧ Below w.heap.size w w' := by
  have k1 := oknown_no n p hn
  unfold shp0 at k1
  clear hn
  refine cps fun Q hQ => ?_
  go_enter Try.func17, Try.ntmps17
  go_wp2_with (go_at_call 37; refine (k1 _).mono ?_; rintro e w1 ⟨rfl, hb1⟩)
  exact hQ.out _ _ ⟨rfl, bmoreS hb1 _⟩
theorem oprev_no (n : Int) (p : Nat) (hn : isW n = false) (w : World) :
    Calls Try.prog 18 #[.int .i64 n, .int .u64 p] w fun e w' => e = .returned (.tuple #[.int .u64 0, codeO 2]) ∧ Below w.heap.size w w' := by
  have k1 := oknown_no n p hn
  unfold shp0 at k1
  clear hn
  refine cps fun Q hQ => ?_
  go_enter Try.func18, Try.ntmps18
  go_wp2_with (go_at_call 37; refine (k1 _).mono ?_; rintro e w1 ⟨rfl, hb1⟩)
  exact hQ.out _ _ ⟨rfl, bmoreS hb1 _⟩
theorem oabs_no (n : Int) (p : Nat) (hn : isW n = false) (w : World) :
    Calls Try.prog 22 #[.int .i64 n, .int .u64 p] w fun e w' => e = .returned (.tuple #[.int .u64 0, codeO 2]) ∧ Below w.heap.size w w' := by
  have k1 := rank_no n p hn
  clear hn
  refine cps fun Q hQ => ?_
  go_enter Try.func22, Try.ntmps22
  go_wp2_with (go_at_call 41; refine (k1 _).mono ?_; rintro e w1 ⟨rfl, hb1⟩)
  exact hQ.out _ _ ⟨rfl, hb1⟩
theorem osteps_no (n : Int) (a b : Nat) (hn : isW n = false) (w : World) :
    Calls Try.prog 27 #[.int .i64 n, .int .u64 a, .int .u64 b] w fun e w' => e = .returned (.tuple #[.int .u64 0, codeO 2]) ∧ Below w.heap.size w w' := by
  have k1 := oranks_no n a b hn
  clear hn
  refine cps fun Q hQ => ?_
  go_enter Try.func27, Try.ntmps27
  go_wp2_with (go_at_call 31; refine (k1 _).mono ?_; rintro e w1 ⟨rfl, hb1⟩)
  exact hQ.out _ _ ⟨rfl, hb1⟩
theorem oneg_no (n : Int) (p : Nat) (hn : isW n = false) (w : World) :
    Calls Try.prog 21 #[.int .i64 n, .int .u64 p] w fun e w' => e = .returned (.tuple #[.int .u64 0, codeO 2]) ∧ Below w.heap.size w w' := by
  obtain ⟨u, hu⟩ : ∃ u : Nat, (u : Int) = -(p : Int) % 18446744073709551616 := ⟨(-(p : Int) % 18446744073709551616).toNat, by omega⟩
  have k1 := fold_no n u hn
  have e1 : IntKind.u64.wrap (-(p : Int)) = (u : Int) := by rw [IntKind.wrap_u64, hu]
  have e2 := hu.symm
  clear hn hu
  refine cps fun Q hQ => ?_
  go_enter Try.func21, Try.ntmps21
  go_wp2_with (go_at_call 38; refine (k1 _).mono ?_; rintro e w1 ⟨rfl, hb1⟩)
  exact hQ.out _ _ ⟨rfl, hb1⟩
theorem oneg_ok (n p : Nat) (hn : Wd n) (hp : p < 2 ^ 64) (w : World) :
    Calls Try.prog 21 #[.int .i64 n, .int .u64 p] w fun e w' => e = .returned (.tuple #[.int .u64 (negO n p : Nat), .nilIface]) ∧ Below w.heap.size w w' := by
  have k1 := fold_ok n (minusU p) hn (minusU_lt p)
  have e1 := minusU_wrap p hp
  have e2 : -(p : Int) % 18446744073709551616 = (minusU p : Int) := by rw [← e1, IntKind.wrap_u64]
  unfold negO
  clear hn hp
  generalize minusU p % 2 ^ n = r at *
  generalize minusU p = u at *
  refine cps fun Q hQ => ?_
  go_enter Try.func21, Try.ntmps21
  go_wp2_with (go_at_call 38; refine (k1 _).mono ?_; rintro e w1 ⟨rfl, hb1⟩)
  exact hQ.out _ _ ⟨rfl, hb1⟩
theorem ocmp_ok (n a b : Nat) (hn : Wd n) (ha : a < 2 ^ 64) (hb : b < 2 ^ 64) (w : World) :
    Calls Try.prog 10 #[.int .i64 n, .int .u64 a, .int .u64 b] w fun e w' => e = .returned (.tuple #[.int .i64 (cmpR n a b), .nilIface]) ∧ Below w.heap.size w w' := by
  have k1 := oranks_ok n a b hn
  have hc := cmpR_cases n a b
  have k2 := ocompare_any (extOf a n) (extOf b n) (cmpR n a b) hc
  clear hn ha hb hc
  generalize cmpR n a b = c at *
  generalize extOf a n = x at *
  generalize extOf b n = y at *
  refine cps fun Q hQ => ?_
  go_enter Try.func10, Try.ntmps10
  go_wp2_with (first
    | (go_at_call 31; refine (k1 _).mono ?_; rintro e w1 ⟨rfl, hb1⟩)
    | (go_at_call 32; refine (k2 _).mono ?_; rintro e wx ⟨rfl, hwx⟩; rw [hwx]; clear hwx wx))
  exact hQ.out _ _ ⟨rfl, hb1⟩
theorem omin_ok (n a b : Nat) (hn : Wd n) (ha : a < 2 ^ 64) (hb : b < 2 ^ 64) (w : World) :
    Calls Try.prog 13 #[.int .i64 n, .int .u64 a, .int .u64 b] w fun e w' => e = .returned (.tuple #[.int .u64 (minO n a b : Nat), .nilIface]) ∧ Below w.heap.size w w' := by
  have k1 := oranks_ok n a b hn
  have k2 := opat_ok n (minO n a b) hn
  have hm : (if extOf b n < extOf a n then extOf b n else extOf a n) = extOf (minO n a b) n := by rw [rank_min n a b hn]; split <;> omega
  rw [show minO n a b % 2 ^ n = minO n a b by unfold minO; split <;> exact Nat.mod_mod _ _] at k2
  generalize extOf (minO n a b) n = r at *
  generalize minO n a b = z at *
  generalize extOf a n = x at *
  generalize extOf b n = y at *
  clear hn ha hb
  refine cps fun Q hQ => ?_
  go_enter Try.func13, Try.ntmps13
  go_wp2_with (first
    | (go_at_call 31; refine (k1 _).mono ?_; rintro e w1 ⟨rfl, hb1⟩)
    | (go_at_call 35; refine (k2 _).mono ?_; rintro e w2 ⟨rfl, hb2⟩))
  exact hQ.out _ _ ⟨rfl, bthenS hb1 hb2⟩
theorem omax_ok (n a b : Nat) (hn : Wd n) (ha : a < 2 ^ 64) (hb : b < 2 ^ 64) (w : World) :
    Calls Try.prog 14 #[.int .i64 n, .int .u64 a, .int .u64 b] w fun e w' => e = .returned (.tuple #[.int .u64 (maxO n a b : Nat), .nilIface]) ∧ Below w.heap.size w w' := by
  have k1 := oranks_ok n a b hn
  have k2 := opat_ok n (maxO n a b) hn
  have hm : (if extOf a n < extOf b n then extOf b n else extOf a n) = extOf (maxO n a b) n := by rw [rank_max n a b hn]; split <;> omega
  rw [show maxO n a b % 2 ^ n = maxO n a b by unfold maxO; split <;> exact Nat.mod_mod _ _] at k2
  generalize extOf (maxO n a b) n = r at *
  generalize maxO n a b = z at *
  generalize extOf a n = x at *
  generalize extOf b n = y at *
  clear hn ha hb
  refine cps fun Q hQ => ?_
  go_enter Try.func14, Try.ntmps14
  go_wp2_with (first
    | (go_at_call 31; refine (k1 _).mono ?_; rintro e w1 ⟨rfl, hb1⟩)
    | (go_at_call 35; refine (k2 _).mono ?_; rintro e w2 ⟨rfl, hb2⟩))
  exact hQ.out _ _ ⟨rfl, bthenS hb1 hb2⟩
theorem onext_ok (n p : Nat) (hn : Wd n) (hp : p < 2 ^ 64) (w : World) :
    Calls Try.prog 17 #[.int .i64 n, .int .u64 p] w fun e w' => e = .returned (.tuple #[.int .u64 (nextO n p : Nat), .nilIface]) ∧ Below w.heap.size w w' := by
  have k1 := oknown_ok n p hn hp
  have k2 := fold_ok n ((p % 2 ^ n + 1) % 2 ^ 64) hn (Nat.mod_lt _ (by decide))
  have hm := two_pow_lt hn
  rw [show nextO n p = stepO n p 1 (2 ^ (n - 1) - 1) from rfl]
  unfold shp at k1
  unfold stepO
  have hq : ∃ q, q = (2 ^ (n - 1) - 1) ∧ q = 2 ^ (n - 1) - 1 := ⟨_, rfl, rfl⟩
  obtain ⟨q, hq1, hq2⟩ := hq
  rw [← hq1]
  have hx64 : p % 2 ^ n < 2 ^ 64 := Nat.lt_of_le_of_lt (Nat.mod_le _ _) hp
  obtain ⟨y, hy⟩ : ∃ y, y = (p % 2 ^ n + 1) % 2 ^ 64 := ⟨_, rfl⟩
  rw [← hy] at k2
  rw [← hy]
  have e1 : IntKind.u64.wrap (((p % 2 ^ n : Nat) : Int) + 1) = (y : Int) := by rw [IntKind.wrap_u64, hy]; omega
  have e2 : (((p % 2 ^ n : Nat) : Int) + 1) % 18446744073709551616 = (y : Int) := by rw [hy]; omega
  clear hy hn hp hx64 hq1
  generalize y % 2 ^ n = z at *
  generalize p % 2 ^ n = x at *
  generalize 2 ^ (n - 1) = m at *
  have hq3 : (m - 1 : Nat) = q := by omega
  clear hq2
  rw [hq3] at k1
  clear hm
  refine cps fun Q hQ => ?_
  by_cases h1 : x = m
  · rw [if_pos (.inl h1)] at hQ
    have d1 : ((x : Int) == (m : Int)) = true := beq_iff_eq.2 (by omega)
    clear h1
    go_enter Try.func17, Try.ntmps17
    go_wp2_with (first
      | (go_at_call 37; refine (k1 _).mono ?_; rintro e w1 ⟨rfl, hb1⟩)
      | (go_at_call 38; refine (k2 _).mono ?_; rintro e w2 ⟨rfl, hb2⟩))
    exact hQ.out _ _ ⟨rfl, bmoreS hb1 _⟩
  · have d1 : ((x : Int) == (m : Int)) = false := beq_eq_false_iff_ne.2 (by omega)
    by_cases h2 : x = q
    · rw [if_pos (.inr h2)] at hQ
      have d2 : ((x : Int) == (q : Int)) = true := beq_iff_eq.2 (by omega)
      clear h1 h2
      go_enter Try.func17, Try.ntmps17
      go_wp2_with (first
        | (go_at_call 37; refine (k1 _).mono ?_; rintro e w1 ⟨rfl, hb1⟩)
        | (go_at_call 38; refine (k2 _).mono ?_; rintro e w2 ⟨rfl, hb2⟩))
      exact hQ.out _ _ ⟨rfl, bmoreS hb1 _⟩
    · rw [if_neg (by rintro (h | h); exact h1 h; exact h2 h)] at hQ
      have d2 : ((x : Int) == (q : Int)) = false := beq_eq_false_iff_ne.2 (by omega)
      clear h1 h2
      go_enter Try.func17, Try.ntmps17
      go_wp2_with (first
        | (go_at_call 37; refine (k1 _).mono ?_; rintro e w1 ⟨rfl, hb1⟩)
        | (go_at_call 38; refine (k2 _).mono ?_; rintro e w2 ⟨rfl, hb2⟩))
      exact hQ.out _ _ ⟨rfl, bthenS (bmoreS hb1 _) hb2⟩
theorem oprev_ok (n p : Nat) (hn : Wd n) (hp : p < 2 ^ 64) (w : World) :
    Calls Try.prog 18 #[.int .i64 n, .int .u64 p] w fun e w' => e = .returned (.tuple #[.int .u64 (prevO n p : Nat), .nilIface]) ∧ Below w.heap.size w w' := by
  have k1 := oknown_ok n p hn hp
  have k2 := fold_ok n ((p % 2 ^ n + 18446744073709551615) % 2 ^ 64) hn (Nat.mod_lt _ (by decide))
  have hm := two_pow_lt hn
  rw [show prevO n p = stepO n p 18446744073709551615 ((2 ^ (n - 1) + 1) % 2 ^ 64) from rfl]
  unfold shp at k1
  unfold stepO
  have hq : ∃ q, q = ((2 ^ (n - 1) + 1) % 2 ^ 64) ∧ q = 2 ^ (n - 1) + 1 := ⟨_, rfl, Nat.mod_eq_of_lt (by omega)⟩
  obtain ⟨q, hq1, hq2⟩ := hq
  rw [← hq1]
  have hx64 : p % 2 ^ n < 2 ^ 64 := Nat.lt_of_le_of_lt (Nat.mod_le _ _) hp
  obtain ⟨y, hy⟩ : ∃ y, y = (p % 2 ^ n + 18446744073709551615) % 2 ^ 64 := ⟨_, rfl⟩
  rw [← hy] at k2
  rw [← hy]
  have e1 : IntKind.u64.wrap (((p % 2 ^ n : Nat) : Int) - 1) = (y : Int) := by rw [IntKind.wrap_u64, hy]; omega
  have e2 : (((p % 2 ^ n : Nat) : Int) - 1) % 18446744073709551616 = (y : Int) := by rw [hy]; omega
  clear hy hn hp hx64 hq1
  generalize y % 2 ^ n = z at *
  generalize p % 2 ^ n = x at *
  generalize 2 ^ (n - 1) = m at *
  have hq3 : ((m : Int) + 1) = (q : Int) := by omega
  clear hq2
  have e3 : IntKind.u64.wrap (q : Int) = (q : Int) := by rw [wrapN, Nat.mod_eq_of_lt (by omega)]
  clear hm
  refine cps fun Q hQ => ?_
  by_cases h1 : x = m
  · rw [if_pos (.inl h1)] at hQ
    have d1 : ((x : Int) == (m : Int)) = true := beq_iff_eq.2 (by omega)
    clear h1
    go_enter Try.func18, Try.ntmps18
    go_wp2_with (first
      | (go_at_call 37; refine (k1 _).mono ?_; rintro e w1 ⟨rfl, hb1⟩)
      | (go_at_call 38; refine (k2 _).mono ?_; rintro e w2 ⟨rfl, hb2⟩))
    exact hQ.out _ _ ⟨rfl, bmoreS hb1 _⟩
  · have d1 : ((x : Int) == (m : Int)) = false := beq_eq_false_iff_ne.2 (by omega)
    by_cases h2 : x = q
    · rw [if_pos (.inr h2)] at hQ
      have d2 : ((x : Int) == (q : Int)) = true := beq_iff_eq.2 (by omega)
      clear h1 h2
      go_enter Try.func18, Try.ntmps18
      go_wp2_with (first
        | (go_at_call 37; refine (k1 _).mono ?_; rintro e w1 ⟨rfl, hb1⟩)
        | (go_at_call 38; refine (k2 _).mono ?_; rintro e w2 ⟨rfl, hb2⟩))
      exact hQ.out _ _ ⟨rfl, bmoreS hb1 _⟩
    · rw [if_neg (by rintro (h | h); exact h1 h; exact h2 h)] at hQ
      have d2 : ((x : Int) == (q : Int)) = false := beq_eq_false_iff_ne.2 (by omega)
      clear h1 h2
      go_enter Try.func18, Try.ntmps18
      go_wp2_with (first
        | (go_at_call 37; refine (k1 _).mono ?_; rintro e w1 ⟨rfl, hb1⟩)
        | (go_at_call 38; refine (k2 _).mono ?_; rintro e w2 ⟨rfl, hb2⟩))
      exact hQ.out _ _ ⟨rfl, bthenS (bmoreS hb1 _) hb2⟩
theorem oabs_ok (n p : Nat) (hn : Wd n) (hp : p < 2 ^ 64) (w : World) :
    Calls Try.prog 22 #[.int .i64 n, .int .u64 p] w fun e w' => e = .returned (.tuple #[.int .u64 (absO n p : Nat), .nilIface]) ∧ Below w.heap.size w w' := by
  have k1 := rank_ok n p hn
  have k2 := oneg_ok n p hn hp
  have k3 := opat_ok n p hn
  unfold absO
  clear hn hp
  generalize negO n p = r at *
  generalize p % 2 ^ n = x at *
  generalize extOf p n = t at *
  refine cps fun Q hQ => ?_
  by_cases h : t < 0
  · rw [if_pos h] at hQ
    have d1 : decide (t < 0) = true := decide_eq_true h
    clear h
    go_enter Try.func22, Try.ntmps22
    go_wp2_with (first
      | (go_at_call 41; refine (k1 _).mono ?_; rintro e w1 ⟨rfl, hb1⟩)
      | (go_at_call 21; refine (k2 _).mono ?_; rintro e w2 ⟨rfl, hb2⟩))
    exact hQ.out _ _ ⟨rfl, bthenS hb1 hb2⟩
  · rw [if_neg h] at hQ
    have d1 : decide (t < 0) = false := decide_eq_false h
    clear h
    go_enter Try.func22, Try.ntmps22
    go_wp2_with (first
      | (go_at_call 41; refine (k1 _).mono ?_; rintro e w1 ⟨rfl, hb1⟩)
      | (go_at_call 35; refine (k3 _).mono ?_; rintro e w3 ⟨rfl, hb3⟩))
    exact hQ.out _ _ ⟨rfl, bthenS hb1 hb3⟩
theorem osteps_ok (n a b : Nat) (hn : Wd n) (ha : a < 2 ^ 64) (hb : b < 2 ^ 64) (w : World) :
    Calls Try.prog 27 #[.int .i64 n, .int .u64 a, .int .u64 b] w fun e w' => e = .returned (.tuple #[.int .u64 (stepsO n a b : Nat), .nilIface]) ∧ Below w.heap.size w w' := by
  have k1 := oranks_ok n a b hn
  unfold stepsO
  clear hn ha hb
  generalize extOf a n = x at *
  generalize extOf b n = y at *
  refine cps fun Q hQ => ?_
  obtain ⟨g, hg⟩ : ∃ g, g = (if x < y then y else x) := ⟨_, rfl⟩
  obtain ⟨l, hl⟩ : ∃ l, l = (if y < x then y else x) := ⟨_, rfl⟩
  have hgl : (if x < y then y - x else x - y) = g - l := by rw [hg, hl]; split <;> split <;> omega
  rw [hgl] at hQ
  have s1 := u64_sub g l
  have s3 : (g % 18446744073709551616 - l % 18446744073709551616) % 18446744073709551616 = (u64Of (g - l) : Int) := by unfold u64Of; omega
  have hg' := hg.symm
  have hl' := hl.symm
  generalize u64Of (g - l) = u at *
  clear hg hl hgl
  go_enter Try.func27, Try.ntmps27
  go_wp2_with (go_at_call 31; refine (k1 _).mono ?_; rintro e w1 ⟨rfl, hb1⟩)
  exact hQ.out _ _ ⟨rfl, hb1⟩
theorem orefuse1_ok (n p : Nat) (hn : Wd n) (hp : p < 2 ^ 64) (w : World) (t : TypeId) :
    Calls Try.prog 42 #[.int .i64 n, .slice (some ⟨w.heap.size, 0, none⟩) 1 1] (w.alloc (.cells #[.int .u64 p] t)) fun e w' => e = .returned (if narB n p then codeO 9 else .nilIface) ∧ Below (w.alloc (.cells #[.int .u64 p] t)).heap.size (w.alloc (.cells #[.int .u64 p] t)) w' := by
  have k := orefuse_ok n hn [p] (by simpa using hp) (by simp) w.heap.size 1 (w.alloc (.cells #[.int .u64 p] t)) (by simp) (fun j hj => by
    have : j = 0 := by simpa using hj
    subst this
    exact World.cell?_alloc_at _ _ _ _ rfl)
  simpa using k
theorem orefuse3_ok (n p lo hi : Nat) (hn : Wd n) (hp : p < 2 ^ 64) (hlo : lo < 2 ^ 64) (hhi : hi < 2 ^ 64) (w : World) (t : TypeId) :
    Calls Try.prog 42 #[.int .i64 n, .slice (some ⟨w.heap.size, 0, none⟩) 3 3] (w.alloc (.cells #[.int .u64 p, .int .u64 lo, .int .u64 hi] t)) fun e w' => e = .returned (if narB n p || (narB n lo || narB n hi) then codeO 9 else .nilIface) ∧ Below (w.alloc (.cells #[.int .u64 p, .int .u64 lo, .int .u64 hi] t)).heap.size (w.alloc (.cells #[.int .u64 p, .int .u64 lo, .int .u64 hi] t)) w' := by
  have k := orefuse_ok n hn [p, lo, hi] (by intro x hx; simp at hx; rcases hx with rfl | rfl | rfl <;> assumption) (by simp) w.heap.size 3 (w.alloc (.cells #[.int .u64 p, .int .u64 lo, .int .u64 hi] t)) (by simp) (fun j hj => by
    have h3 : j = 0 ∨ j = 1 ∨ j = 2 := by simp at hj; omega
    rcases h3 with rfl | rfl | rfl <;> exact World.cell?_alloc_at _ _ _ _ rfl)
  simp only [List.any_cons, List.any_nil, Bool.or_false, List.length_cons, List.length_nil, Nat.zero_add, Nat.reduceAdd] at k
  exact k
theorem osign_no (n : Int) (p : Nat) (hn : isW n = false) (w : World) :
    Calls Try.prog 23 #[.int .i64 n, .int .u64 p] w fun e w' => e = .returned (.tuple #[.int .i64 0, codeO 2]) ∧ Below w.heap.size w w' := by
  have k1 := fun (w : World) (t : TypeId) => orefuse_no n hn p 1 w.heap.size 1 (by decide) (w.alloc (.cells #[.int .u64 p] t)) (World.cell?_alloc_at _ _ _ _ rfl)
  clear hn
  refine cps fun Q hQ => ?_
  go_enter Try.func23, Try.ntmps23
  go_wp2_with (go_at_call 42; refine (k1 _ _).mono ?_; rintro e w1 ⟨rfl, hb1⟩)
  exact hQ.out _ _ ⟨rfl, bthenS (bmoreS (Below.refl _ _) _) hb1⟩
theorem osign_ok (n p : Nat) (hn : Wd n) (hp : p < 2 ^ 64) (w : World) :
    Calls Try.prog 23 #[.int .i64 n, .int .u64 p] w fun e w' => e = .returned (if narB n p then .tuple #[.int .i64 0, codeO 9] else .tuple #[.int .i64 (cmpR n p 0), .nilIface]) ∧ Below w.heap.size w w' := by
  have k1 := orefuse1_ok n p hn hp
  have k2 := ocmp_ok n p 0 hn hp (by decide)
  rw [show ((0 : Nat) : Int) = 0 from rfl] at k2
  clear hn hp
  generalize cmpR n p 0 = c at *
  refine cps fun Q hQ => ?_
  cases hb : narB n p
  · rw [hb, if_neg (by decide)] at hQ
    simp only [hb, Bool.false_eq_true, if_false] at k1
    clear hb
    go_enter Try.func23, Try.ntmps23
    go_wp2_with (first
      | (go_at_call 42; refine (k1 _ _).mono ?_; rintro e w1 ⟨rfl, hb1⟩)
      | (go_at_call 10; refine (k2 _).mono ?_; rintro e w2 ⟨rfl, hb2⟩))
    exact hQ.out _ _ ⟨rfl, bthenS (bthenS (bmoreS (Below.refl _ _) _) hb1) hb2⟩
  · rw [hb, if_pos rfl] at hQ
    simp only [hb, if_true] at k1
    clear hb
    go_enter Try.func23, Try.ntmps23
    go_wp2_with (first
      | (go_at_call 42; refine (k1 _ _).mono ?_; rintro e w1 ⟨rfl, hb1⟩)
      | (go_at_call 10; refine (k2 _).mono ?_; rintro e w2 ⟨rfl, hb2⟩))
    exact hQ.out _ _ ⟨rfl, bthenS (bmoreS (Below.refl _ _) _) hb1⟩
theorem oclamp_no (n : Int) (p lo hi : Nat) (hn : isW n = false) (w : World) :
    Calls Try.prog 29 #[.int .i64 n, .int .u64 p, .int .u64 lo, .int .u64 hi] w fun e w' => e = .returned (.tuple #[.int .u64 0, codeO 2]) ∧ Below w.heap.size w w' := by
  have k1 := fun (w : World) (t : TypeId) => orefuse_no n hn p 3 w.heap.size 3 (by decide) (w.alloc (.cells #[.int .u64 p, .int .u64 lo, .int .u64 hi] t)) (World.cell?_alloc_at _ _ _ _ rfl)
  clear hn
  refine cps fun Q hQ => ?_
  go_enter Try.func29, Try.ntmps29
  go_wp2_with (go_at_call 42; refine (k1 _ _).mono ?_; rintro e w1 ⟨rfl, hb1⟩)
  exact hQ.out _ _ ⟨rfl, bthenS (bmoreS (Below.refl _ _) _) hb1⟩
theorem oclamp_ok (n p lo hi : Nat) (hn : Wd n) (hp : p < 2 ^ 64) (hlo : lo < 2 ^ 64) (hhi : hi < 2 ^ 64) (w : World) :
    Calls Try.prog 29 #[.int .i64 n, .int .u64 p, .int .u64 lo, .int .u64 hi] w fun e w' => e = .returned (.tuple #[.int .u64 (clampV n p lo hi).2, (if (clampV n p lo hi).1 = 0 then .nilIface else codeO (clampV n p lo hi).1)]) ∧ Below w.heap.size w w' := by
  have k1 := orefuse3_ok n p lo hi hn hp hlo hhi
  have k2 := oranks_ok n lo hi hn
  have k3 := rank_ok n p hn
  have k4 := opat_ok n (minO n (maxO n p lo) hi) hn
  rw [rank_min n _ _ hn, rank_max n _ _ hn, show minO n (maxO n p lo) hi % 2 ^ n = minO n (maxO n p lo) hi by unfold minO; split <;> exact Nat.mod_mod _ _] at k4
  have hc := cmpR_cases n lo hi
  unfold clampV
  clear hn hp hlo hhi
  generalize minO n (maxO n p lo) hi = z at *
  generalize cmpR n lo hi = c at *
  generalize extOf p n = x at *
  generalize extOf lo n = l at *
  generalize extOf hi n = h at *
  have hor : (narB n p = true ∨ narB n lo = true ∨ narB n hi = true) ↔ (narB n p || (narB n lo || narB n hi)) = true := by simp
  generalize (narB n p || (narB n lo || narB n hi)) = bb at *
  refine cps fun Q hQ => ?_
  cases bb
  · rw [if_neg (fun e => Bool.noConfusion (hor.1 e))] at hQ
    simp only [Bool.false_eq_true, if_false] at k1
    clear hor
    by_cases hlt : h < l
    · have hc1 : c = 1 := by omega
      subst hc1
      rw [if_pos (by decide), if_neg (by decide)] at hQ
      have d1 : decide (h < l) = true := decide_eq_true hlt
      clear hc hlt k4 k3
      go_enter Try.func29, Try.ntmps29
      go_wp2_with (first
        | (go_at_call 42; refine (k1 _ _).mono ?_; rintro e w1 ⟨rfl, hb1⟩)
        | (go_at_call 31; refine (k2 _).mono ?_; rintro e w2 ⟨rfl, hb2⟩))
      exact hQ.out _ _ ⟨rfl, bthenS (bthenS (bmoreS (Below.refl _ _) _) hb1) hb2⟩
    · rw [if_neg (by omega), if_pos rfl] at hQ
      have d1 : decide (h < l) = false := decide_eq_false hlt
      obtain ⟨g, hg⟩ : ∃ g, g = (if x < l then l else x) := ⟨_, rfl⟩
      obtain ⟨m, hm⟩ : ∃ m, m = (if h < g then h else g) := ⟨_, rfl⟩
      rw [show max x l = g by rw [hg]; split <;> omega, show min g h = m by rw [hm]; split <;> omega] at k4
      have hg' := hg.symm
      have hm' := hm.symm
      clear hc hlt hg hm
      go_enter Try.func29, Try.ntmps29
      go_wp2_with (first
        | (go_at_call 42; refine (k1 _ _).mono ?_; rintro e w1 ⟨rfl, hb1⟩)
        | (go_at_call 31; refine (k2 _).mono ?_; rintro e w2 ⟨rfl, hb2⟩)
        | (go_at_call 41; refine (k3 _).mono ?_; rintro e w3 ⟨rfl, hb3⟩)
        | (go_at_call 35; refine (k4 _).mono ?_; rintro e w4 ⟨rfl, hb4⟩))
      exact hQ.out _ _ ⟨rfl, bthenS (bthenS (bthenS (bthenS (bmoreS (Below.refl _ _) _) hb1) hb2) hb3) hb4⟩
  · rw [if_pos (hor.2 rfl), if_neg (by decide)] at hQ
    simp only [if_true] at k1
    clear hor hc k2 k3 k4
    go_enter Try.func29, Try.ntmps29
    go_wp2_with (go_at_call 42; refine (k1 _ _).mono ?_; rintro e w1 ⟨rfl, hb1⟩)
    exact hQ.out _ _ ⟨rfl, bthenS (bmoreS (Below.refl _ _) _) hb1⟩
end Go.Proofs.Ytfmhhcmjcmechaa

namespace Go.Proofs.Ytfmhhcmjcmechaa
/-! ### the contracts of package order stand in OrdE, OrdF -/
end Go.Proofs.Ytfmhhcmjcmechaa

namespace Go.Proofs.Ytfmhhcmjcmechaa
open Go.ChangeShapes Go.WideShapes Go.ChangeAt Go.RowKit
set_option linter.unusedVariables false
set_option linter.unusedSimpArgs false
set_option maxRecDepth 100000

theorem oup_any (w : World) : Calls Try.prog 9 #[] w fun e w' => e = .returned (.bool true) ∧ Below w.heap.size w w' := by
  have k1 := fun w => ocmp_ok 8 255 1 (.inl rfl) (by decide) (by decide) w
  have k2 := fun w => onext_ok 8 255 (.inl rfl) (by decide) w
  have k3 := fun w => oneg_ok 8 64 (.inl rfl) (by decide) w
  rw [show cmpR 8 255 1 = -1 by decide +kernel] at k1
  rw [show nextO 8 255 = 0 by decide +kernel] at k2
  rw [show negO 8 64 = 192 by decide +kernel] at k3
  rw [show ((255 : Nat) : Int) = 255 from rfl, show ((8 : Nat) : Int) = 8 from rfl, show ((1 : Nat) : Int) = 1 from rfl] at k1
  rw [show ((255 : Nat) : Int) = 255 from rfl, show ((8 : Nat) : Int) = 8 from rfl, show ((0 : Nat) : Int) = 0 from rfl] at k2
  rw [show ((64 : Nat) : Int) = 64 from rfl, show ((8 : Nat) : Int) = 8 from rfl, show ((192 : Nat) : Int) = 192 from rfl] at k3
  refine cps fun Q hQ => ?_
  go_enter Try.func9, Try.ntmps9
  go_wp2_with (first
    | (go_at_call 10; refine (k1 _).mono ?_; rintro e w1 ⟨rfl, hb1⟩)
    | (go_at_call 17; refine (k2 _).mono ?_; rintro e w2 ⟨rfl, hb2⟩)
    | (go_at_call 21; refine (k3 _).mono ?_; rintro e w3 ⟨rfl, hb3⟩))
  exact hQ.out _ _ ⟨rfl, cthen (cthen hb1 hb2) hb3⟩
end Go.Proofs.Ytfmhhcmjcmechaa
