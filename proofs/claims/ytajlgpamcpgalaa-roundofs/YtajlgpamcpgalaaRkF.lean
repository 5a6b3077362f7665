import Derived.Test.YtajlgpamcpgalaaRkE
namespace Go.Proofs.Ytajlgpamcpgalaa
open Go.ChangeShapes Go.WideShapes Go.ChangeAt Go.RowKit
set_option linter.unusedVariables false
set_option linter.unusedSimpArgs false
set_option maxRecDepth 100000

/-! ### Make -/
theorem rmake_bad (neg : Bool) (hi lo : Nat) (exp : Int) (h : hi < 9223372036854775808) (hl : lo < 2 ^ 64) (w : World) :
    Calls Try.prog 10 #[.bool neg, .int .u64 hi, .int .u64 lo, .int .i64 exp, .bool true] w fun e w' => e = .returned (.tuple #[exV 0 false 0 0 0 false, codeV 1]) ∧ Below w.heap.size w w' := by
  have g : ((hi : Int) / 9223372036854775808 == 0) = true := beq_iff_eq.2 (by omega)
  clear h
  unfold exV
  refine cps fun Q hQ => ?_
  go_enter Try.func10, Try.ntmps10
  go_wp2
  refine bodyPost_ret (v := .tuple #[.agg #[.int .i64 0, .bool false, .int .i64 0, .int .u64 0, .int .u64 0, .bool false], codeV 1]) (by simp [results, Try.results10, go_sem]) rfl (hQ.out _ _ ⟨rfl, ?_⟩)
  exact cmore (Below.refl _ _) _
theorem rmake_zero (neg : Bool) (exp : Int) (w : World) :
    Calls Try.prog 10 #[.bool neg, .int .u64 0, .int .u64 0, .int .i64 exp, .bool false] w fun e w' => e = .returned (.tuple #[exV 0 false 0 0 0 false, .nilIface]) ∧ Below w.heap.size w w' := by
  have k1 := tnorm_zero
  unfold exV
  refine cps fun Q hQ => ?_
  go_enter Try.func10, Try.ntmps10
  go_wp2_with (go_at_call 25; refine (k1 _).mono ?_; rintro e w2 ⟨rfl, hb2⟩; have RR := (hb2.block w.heap.size (by simp)).trans (rownew' _ _ _ _ rfl); have z2 : w.heap.size < w2.heap.size := (by have := hb2.size; simp at this; omega); have r0 := rowcell RR 0; have r1 := rowcell RR 1; have r2 := rowcell RR 2; have r3 := rowcell RR 3; have r4 := rowcell RR 4; have r5 := rowcell RR 5; have rf := rowfree RR; simp only [List.getElem?_toArray, List.getElem?_cons_zero, List.getElem?_cons_succ] at r0 r1 r2 r3 r4 r5; have HB2 : Hid (Below _ _ _) := cthen (cmore (Below.refl _ _) _) hb2; clear hb2 RR)
  refine bodyPost_ret (v := .tuple #[.agg #[.int .i64 0, .bool false, .int .i64 0, .int .u64 0, .int .u64 0, .bool false], .nilIface]) (by simp [results, Try.results10, go_sem, r0, r1, r2, r3, r4, r5, z2]) rfl (hQ.out _ _ ⟨rfl, ?_⟩)
  exact cmore (cset6 HB2.out (Nat.le_refl _)) _
theorem norm_shift {M k : Nat} (hM : blen M ≤ 128) (hk : k + blen M = 128) : normN M = M * 2 ^ k ∧ lostN M = false := by
  constructor
  · unfold normN
    by_cases h : blen M < 128
    · rw [if_pos h, show 128 - blen M = k by omega]
    · rw [if_neg h, show blen M - 128 = 0 by omega, show k = 0 by omega, Nat.pow_zero, Nat.div_one, Nat.mul_one]
  · unfold lostN
    rw [decide_eq_false (show ¬ 128 < blen M by omega), Bool.false_and]
set_option maxHeartbeats 1000000 in
theorem rmake_walk (neg : Bool) (hi lo : Nat) (exp : Int) (rest : Bool) (nh nl k : Nat) (m x hv : Int) (hne : ¬ (nh : Int) = 0) (g : rest = false ∨ ((hi : Int) / 9223372036854775808 == 0) = false)
    (k1 : ∀ w, Calls Try.prog 25 #[.agg #[.int .u64 hi, .int .u64 lo]] w fun e w' => e = .returned (.tuple #[.agg #[.int .u64 nh, .int .u64 nl], .int .i64 k]) ∧ Below w.heap.size w w')
    (hm : (if 1099511627776 < exp then 1099511627776 else exp) = m) (q1 : IntKind.i64.wrap (m + 127) = m + 127) (q2 : IntKind.i64.wrap (m + 127 - (k : Int)) = m + 127 - (k : Int))
    (hx : (if m + 127 - (k : Int) < -1099511627776 then -1099511627776 else m + 127 - (k : Int)) = x) (hy : (if 1099511627776 < x then 1099511627776 else x) = hv) (w : World) :
    Calls Try.prog 10 #[.bool neg, .int .u64 hi, .int .u64 lo, .int .i64 exp, .bool rest] w fun e w' => e = .returned (.tuple #[exV 1 neg hv nh nl rest, .nilIface]) ∧ Below w.heap.size w w' := by
  unfold exV
  refine cps fun Q hQ => ?_
  cases rest
  · clear g
    go_enter Try.func10, Try.ntmps10
    go_wp2_with (go_at_call 25; refine (k1 _).mono ?_; rintro e w2 ⟨rfl, hb2⟩; have RR := (hb2.block w.heap.size (by simp)).trans (rownew' _ _ _ _ rfl); have z2 : w.heap.size < w2.heap.size := (by have := hb2.size; simp at this; omega); have r0 := rowcell RR 0; have r1 := rowcell RR 1; have r2 := rowcell RR 2; have r3 := rowcell RR 3; have r4 := rowcell RR 4; have r5 := rowcell RR 5; have rf := rowfree RR; simp only [List.getElem?_toArray, List.getElem?_cons_zero, List.getElem?_cons_succ] at r0 r1 r2 r3 r4 r5; have HB2 : Hid (Below _ _ _) := cthen (cmore (Below.refl _ _) _) hb2; clear hb2 RR)
    all_goals
      refine bodyPost_ret (v := .tuple #[.agg #[.int .i64 1, .bool neg, .int .i64 hv, .int .u64 nh, .int .u64 nl, .bool false], .nilIface]) (by simp [results, Try.results10, go_sem, r0, r1, r2, r3, r4, r5, z2]) rfl (hQ.out _ _ ⟨rfl, ?_⟩)
      exact cmore (cset6 HB2.out (Nat.le_refl _)) _
  · have g : ((hi : Int) / 9223372036854775808 == 0) = false := by rcases g with g | g; cases g; exact g
    go_enter Try.func10, Try.ntmps10
    go_wp2_with (go_at_call 25; refine (k1 _).mono ?_; rintro e w2 ⟨rfl, hb2⟩; have RR := (hb2.block w.heap.size (by simp)).trans (rownew' _ _ _ _ rfl); have z2 : w.heap.size < w2.heap.size := (by have := hb2.size; simp at this; omega); have r0 := rowcell RR 0; have r1 := rowcell RR 1; have r2 := rowcell RR 2; have r3 := rowcell RR 3; have r4 := rowcell RR 4; have r5 := rowcell RR 5; have rf := rowfree RR; simp only [List.getElem?_toArray, List.getElem?_cons_zero, List.getElem?_cons_succ] at r0 r1 r2 r3 r4 r5; have HB2 : Hid (Below _ _ _) := cthen (cmore (Below.refl _ _) _) hb2; clear hb2 RR)
    all_goals
      refine bodyPost_ret (v := .tuple #[.agg #[.int .i64 1, .bool neg, .int .i64 hv, .int .u64 nh, .int .u64 nl, .bool true], .nilIface]) (by simp [results, Try.results10, go_sem, r0, r1, r2, r3, r4, r5, z2]) rfl (hQ.out _ _ ⟨rfl, ?_⟩)
      exact cmore (cset6 HB2.out (Nat.le_refl _)) _
theorem norm_tw {M : Nat} (h : M < 340282366920938463463374607431768211456) : Tw M (M / 2 ^ 64 % 2 ^ 64) (M % 2 ^ 64) := ⟨by omega, by omega, by omega⟩
theorem rmake_real (neg : Bool) (hi lo : Nat) (exp : Int) (rest : Bool) (hh : hi < 2 ^ 64) (hl : lo < 2 ^ 64) (he : -9223372036854775808 ≤ exp ∧ exp ≤ 9223372036854775807) (h : rest = false ∨ 9223372036854775808 ≤ hi) (h0 : manX hi lo ≠ 0) (w : World) :
    Calls Try.prog 10 #[.bool neg, .int .u64 hi, .int .u64 lo, .int .i64 exp, .bool rest] w fun e w' => e = .returned (.tuple #[exactV neg (manX hi lo) exp rest, .nilIface]) ∧ Below w.heap.size w w' := by
  have hM := manX_lt hh hl
  have hbl : blen (manX hi lo) ≤ 128 := blen_le.2 hM
  have hb1 : 1 ≤ blen (manX hi lo) := by rw [blen_pos h0]; omega
  obtain ⟨k, hk⟩ : ∃ k, k + blen (manX hi lo) = 128 := ⟨128 - blen (manX hi lo), by omega⟩
  obtain ⟨n1, n2⟩ := norm_shift hbl hk
  have hmt := (normN_mant h0).2
  have htop := (normN_words h0).top
  have hTM : Tw (manX hi lo) hi lo := ⟨rfl, by omega, by omega⟩
  have hN : normN (manX hi lo) < 340282366920938463463374607431768211456 := hmt
  have hTN := norm_tw hN
  have hTk : Tw ((manX hi lo * 2 ^ k) % 340282366920938463463374607431768211456) (normN (manX hi lo) / 2 ^ 64 % 2 ^ 64) (normN (manX hi lo) % 2 ^ 64) := by
    rw [← n1, Nat.mod_eq_of_lt hN]; exact hTN
  have k1 := fun w => tnorm_any hTM h0 hk hTk w
  have hv : exactV neg (manX hi lo) exp rest = exV 1 neg (heldX (exp + blen (manX hi lo) - 1)) (normN (manX hi lo) / 2 ^ 64 % 2 ^ 64) (normN (manX hi lo) % 2 ^ 64) rest := by
    unfold exactV; rw [if_neg h0, n2, Bool.or_false]
  rw [hv]
  have hkr : k ≤ 127 := by omega
  have hsc : exp + blen (manX hi lo) - 1 = exp + 127 - k := by omega
  rw [hsc]
  have hm : ∃ m, (if 1099511627776 < exp then 1099511627776 else exp) = m := ⟨_, rfl⟩
  obtain ⟨m, hm⟩ := hm
  have hmr : -9223372036854775808 ≤ m ∧ m ≤ 1099511627776 := by rw [← hm]; clear hTM hTN hTk k1 hmt hN htop; split <;> omega
  obtain ⟨x, hx⟩ : ∃ x, (if m + 127 - (k : Int) < -1099511627776 then -1099511627776 else m + 127 - (k : Int)) = x := ⟨_, rfl⟩
  have hy : (if 1099511627776 < x then 1099511627776 else x) = heldX (exp + 127 - k) := by
    clear hTM hTN hTk k1 hmt hN htop
    rw [← hx, ← hm]; unfold heldX
    by_cases c : 1099511627776 < exp
    · rw [if_pos c]
      repeat' split
      all_goals omega
    · rw [if_neg c]
      repeat' split
      all_goals omega
  have q1 : IntKind.i64.wrap (m + 127) = m + 127 := wrapI (by omega)
  have q2 : IntKind.i64.wrap (m + 127 - (k : Int)) = m + 127 - (k : Int) := wrapI (by omega)
  refine rmake_walk neg hi lo exp rest _ _ k m x _ ?_ ?_ k1 hm q1 q2 hx hy w
  · intro c; have c2 := Int.ofNat_eq_zero.1 c; rw [c2] at htop; exact absurd htop (by decide)
  · rcases h with h | h
    · exact .inl h
    · exact .inr (beq_eq_false_iff_ne.2 (by omega))
theorem rmake_ok (neg : Bool) (hi lo : Nat) (exp : Int) (rest : Bool) (hh : hi < 2 ^ 64) (hl : lo < 2 ^ 64) (he : -9223372036854775808 ≤ exp ∧ exp ≤ 9223372036854775807) (h : rest = false ∨ 9223372036854775808 ≤ hi) (w : World) :
    Calls Try.prog 10 #[.bool neg, .int .u64 hi, .int .u64 lo, .int .i64 exp, .bool rest] w fun e w' => e = .returned (.tuple #[exactV neg (manX hi lo) exp rest, .nilIface]) ∧ Below w.heap.size w w' := by
  by_cases h0 : manX hi lo = 0
  · have hz : hi = 0 ∧ lo = 0 := by unfold manX at h0; omega
    obtain ⟨rfl, rfl⟩ := hz
    have hr : rest = false := by rcases h with h | h; exact h; omega
    subst hr
    have hv : exactV neg (manX 0 0) exp false = exV 0 false 0 0 0 false := by unfold exactV; rw [if_pos h0]
    rw [hv]
    exact rmake_zero neg exp w
  · exact rmake_real neg hi lo exp rest hh hl he h h0 w
end Go.Proofs.Ytajlgpamcpgalaa
