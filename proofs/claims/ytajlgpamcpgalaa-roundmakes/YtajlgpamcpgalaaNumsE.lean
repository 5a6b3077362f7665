import Derived.Test.YtajlgpamcpgalaaNumsC
namespace Go.Proofs.Ytajlgpamcpgalaa
open Go.ChangeShapes Go.WideShapes Go.ChangeAt Go.RowKit
set_option linter.unusedVariables false
set_option maxRecDepth 100000

theorem two_int (kk : Int) (k : Nat) (hkk : kk = (k : Int)) (hk : k ≤ 24) (w : World) :
    Calls Try.prog 52 #[.int .i64 kk] w fun e w' => e = .returned (.int .i64 (2 ^ k : Nat)) ∧ w' = w := by
  rw [hkk]; exact two_any k hk w

theorem digit_int' (v : Value) (n : Nat) (ii : Int) (i d : Nat) (hii : ii = (i : Int)) (hi : i < 4611686018427387904) (w : World) (hr : Row w v (dig n)) (hd : d = top n i % 16777216) :
    Calls Try.prog 50 #[v, .int .i64 ii] w fun e w' => e = .returned (.int .i64 d) ∧ w' = w := by
  rw [hii]; exact digit_dig v n i d hi w hr hd

/-! ### how many bits -/
def blen (n : Nat) : Nat := if h : n = 0 then 0 else blen (n / 2) + 1
theorem blen_zero : blen 0 = 0 := by unfold blen; simp
theorem blen_pos {n : Nat} (h : n ≠ 0) : blen n = blen (n / 2) + 1 := by
  conv => lhs; unfold blen
  simp [h]
theorem blen_le {n m : Nat} : blen n ≤ m ↔ n < 2 ^ m := by
  induction m generalizing n with
  | zero =>
    by_cases h : n = 0
    · subst h; simp [blen_zero]
    · rw [blen_pos h]; simp; exact h
  | succ m ih =>
    by_cases h : n = 0
    · subst h; simp [blen_zero]; exact Nat.pow_pos (by decide)
    · rw [blen_pos h, Nat.add_le_add_iff_right, ih, Nat.pow_succ]; omega
theorem blen_shift {a k : Nat} (h : a / 2 ^ k ≠ 0) : blen a = blen (a / 2 ^ k) + k := by
  induction k with
  | zero => simp
  | succ k ih =>
    have e : a / 2 ^ (k + 1) = a / 2 ^ k / 2 := by rw [Nat.pow_succ, Nat.div_div_eq_div_mul]
    have h1 : a / 2 ^ k ≠ 0 := by intro h2; rw [e, h2] at h; simp at h
    rw [ih h1, blen_pos h1, e]; omega
theorem blen_top {a : Nat} (h : a ≠ 0) : blen a = blen (top a (dlen a - 1)) + 24 * (dlen a - 1) := by
  have e : top a (dlen a - 1) = a / 2 ^ (24 * (dlen a - 1)) := by
    rw [top_eq, show (16777216 : Nat) = 2 ^ 24 by decide, ← Nat.pow_mul]
  have h2 := (dig_last h).1
  have h3 : top a (dlen a - 1) ≠ 0 := by intro h4; rw [h4] at h2; simp at h2
  rw [e] at h3 ⊢
  exact blen_shift h3

set_option maxHeartbeats 1000000 in
theorem nbits_any (va : Value) (a : Nat) (hS : dlen a ≤ 1099511627776) (w : World) (ha : Row w va (dig a)) :
    Calls Try.prog 53 #[va] w fun e w' => e = .returned (.int .i64 (blen a)) ∧ w' = w := by
  refine cps fun Q hQ => ?_
  obtain ⟨aa, ca, rfl, h1, h2, hr⟩ := ha.reads
  clear ha
  have hz := @dlen_eq_zero a
  by_cases h0 : dlen a = 0
  · have hn := hz.1 h0
    subst hn
    have HQ : Hid _ := hQ.out _ w ⟨rfl, rfl⟩
    rw [blen_zero] at HQ
    clear hz hr
    go_enter Try.func53, Try.ntmps53
    go_wp2
    exact HQ.out
  · have hn : a ≠ 0 := fun h => h0 (hz.2 h)
    have hb := blen_top hn
    have hd := (dig_last hn).2
    obtain ⟨b, off, rfl, hlt, hr⟩ := hr.resolve_left h0
    have hcell := hr (dlen a - 1) (by omega)
    rw [← hd] at hcell
    have hT : top a (dlen a - 1) ≤ 16777215 := by omega
    obtain ⟨L, hL⟩ : ∃ L, L = blen a := ⟨_, rfl⟩
    rw [← hL] at hQ hb
    generalize top a (dlen a - 1) = T at *
    have hT24 : blen T ≤ 24 := blen_le.2 (by omega)
    have HB : Hid (24 * (dlen a - 1) + blen T = L) := show _ = _ by omega
    have HL : Hid (L ≤ 26388279066648) := show _ ≤ _ by omega
    clear hb hr hz hL hd
    go_enter Try.func53, Try.ntmps53
    go_wp2
    go_loop [3, 4] (fun n t => ∃ N V : Nat, Hid (N + blen V = L) ∧ n = .int .i64 N ∧ t = .int .i64 V ∧ N ≤ 26388279066648 ∧ V ≤ 16777215) (fun _ t => (intOf t).toNat)
    case atStart => exact ⟨24 * (dlen a - 1), T, HB.out, by go_num, rfl, by omega, hT⟩
    case round =>
      obtain ⟨N, V, hI, rfl, rfl, hN, hV⟩ := hrel
      by_cases hlt : 0 < V
      · have hs := blen_pos (n := V) (by omega)
        have HI2 : Hid (N + 1 + blen (V / 2) = L) := show _ = _ by have := hI.out; omega
        have HI3 : Hid (N + 1 ≤ 26388279066648) := show _ ≤ _ by have := hI.out; have := HL.out; omega
        clear hs
        go_wp2
        go_round
        case rel => exact ⟨N + 1, V / 2, HI2.out, by go_num, by go_num, HI3.out, by omega⟩
        case measure => simp [intOf]; omega
      · have e : V = 0 := by omega
        subst e
        go_wp2
        have := hI.out
        rw [blen_zero, Nat.add_zero] at this
        rw [this]
        exact hQ.out _ _ ⟨rfl, rfl⟩

set_option maxHeartbeats 1000000 in
theorem nword_any (va : Value) (a : Nat) (w : World) (ha : Row w va (dig a)) :
    Calls Try.prog 57 #[va] w fun e w' => e = .returned (.int .u64 (a % 2 ^ 64 : Nat)) ∧ w' = w := by
  refine cps fun Q hQ => ?_
  have HR : Hid (Row w va (dig a)) := ha
  obtain ⟨d0, hd0⟩ : ∃ d, d = top a 0 % 16777216 := ⟨_, rfl⟩
  obtain ⟨d1, hd1⟩ : ∃ d, d = top a 1 % 16777216 := ⟨_, rfl⟩
  obtain ⟨d2, hd2⟩ : ∃ d, d = top a 2 % 16777216 := ⟨_, rfl⟩
  have b0 : d0 ≤ 16777215 := by omega
  have b1 : d1 ≤ 16777215 := by omega
  have b2 : d2 ≤ 16777215 := by omega
  have H0 : Hid (d0 = top a 0 % 16777216) := hd0
  have H1 : Hid (d1 = top a 1 % 16777216) := hd1
  have H2 : Hid (d2 = top a 2 % 16777216) := hd2
  have HV : Hid (((d2 * 16777216 + d1) * 16777216 + d0) % 18446744073709551616 = a % 2 ^ 64) := by
    show _ = _
    have e0 : top a 0 = a := rfl
    have e1 : top a 1 = a / 16777216 := rfl
    have e2 : top a 2 = a / 16777216 / 16777216 := rfl
    omega
  generalize hVV : a % 2 ^ 64 = VV at *
  clear ha hd0 hd1 hd2 hVV
  go_enter Try.func57, Try.ntmps57
  go_wp2
  go_loop [3, 4] (fun v i => (i = .int .i64 2 ∧ v = .int .u64 0) ∨ (i = .int .i64 1 ∧ v = .int .u64 (d2 : Nat)) ∨ (i = .int .i64 0 ∧ v = .int .u64 (d2 * 16777216 + d1 : Nat)) ∨ (i = .int .i64 (-1) ∧ v = .int .u64 (VV : Nat))) (fun _ i => (intOf i + 1).toNat)
  case atStart => exact .inl ⟨rfl, rfl⟩
  case round =>
    rcases hrel with ⟨rfl, rfl⟩ | ⟨rfl, rfl⟩ | ⟨rfl, rfl⟩ | ⟨rfl, rfl⟩
    · go_wp2_with (go_at_call 50; refine (digit_int' _ a 2 2 d2 rfl (by omega) _ HR.out H2.out).mono ?_; rintro e w' ⟨rfl, hw⟩; rw [hw]; clear hw w')
      go_round
      case rel => exact .inr (.inl ⟨rfl, rfl⟩)
      case measure => simp [intOf]
    · go_wp2_with (go_at_call 50; refine (digit_int' _ a 1 1 d1 rfl (by omega) _ HR.out H1.out).mono ?_; rintro e w' ⟨rfl, hw⟩; rw [hw]; clear hw w')
      go_round
      case rel => exact .inr (.inr (.inl ⟨rfl, by go_num⟩))
      case measure => simp [intOf]
    · go_wp2_with (go_at_call 50; refine (digit_int' _ a 0 0 d0 rfl (by omega) _ HR.out H0.out).mono ?_; rintro e w' ⟨rfl, hw⟩; rw [hw]; clear hw w')
      go_round
      case rel =>
        refine .inr (.inr (.inr ⟨rfl, ?_⟩))
        refine congrArg (Value.int IntKind.u64) ?_
        rw [IntKind.wrap_u64, IntKind.wrap_u64, ← HV.out]
        omega
      case measure => simp [intOf]
    · go_wp2
      exact hQ.out _ _ ⟨rfl, rfl⟩

/-! ### comparing -/
def cmpN (a b : Nat) : Int := if a < b then -1 else if a = b then 0 else 1
theorem cmpN_lt {a b : Nat} (h : a < b) : cmpN a b = -1 := by simp [cmpN, h]
theorem cmpN_gt {a b : Nat} (h : b < a) : cmpN a b = 1 := by unfold cmpN; rw [if_neg (by omega), if_neg (by omega)]
theorem cmpN_eq (a : Nat) : cmpN a a = 0 := by simp [cmpN]
/-! ### is one of the lowest bits 1? -/
theorem low_part (a i m : Nat) (hm : m ≤ 24) (h : 2 ^ (24 * i) ∣ a) : top a i % 16777216 % 2 ^ m = 0 ↔ 2 ^ (24 * i + m) ∣ a := by
  obtain ⟨x, rfl⟩ := h
  have e : top (2 ^ (24 * i) * x) i = x := by
    rw [top_eq, show (16777216 : Nat) = 2 ^ 24 by decide, ← Nat.pow_mul, Nat.mul_div_cancel_left _ (Nat.pow_pos (by decide))]
  have hd : 2 ^ m ∣ 16777216 := by rw [show (16777216 : Nat) = 2 ^ 24 by decide]; exact Nat.pow_dvd_pow 2 hm
  rw [e, Nat.mod_mod_of_dvd _ hd, Nat.pow_add, Nat.mul_dvd_mul_iff_left (Nat.pow_pos (by decide))]
  exact (Nat.dvd_iff_mod_eq_zero).symm
theorem low_end (a i : Nat) (h : 2 ^ (24 * i) ∣ a) (hi : dlen a ≤ i) : a = 0 := by
  have h1 := lt_of_dlen_le hi
  rw [show (16777216 : Nat) = 2 ^ 24 by decide, ← Nat.pow_mul] at h1
  exact Nat.eq_zero_of_dvd_of_lt h h1
set_option maxHeartbeats 2000000 in
theorem nlow_any (va : Value) (a k : Nat) (hk : k ≤ 9223372036854775807) (hS : dlen a ≤ 1099511627776) (w : World) (ha : Row w va (dig a)) :
    Calls Try.prog 55 #[va, .int .i64 k] w fun e w' => e = .returned (.bool (decide (a % 2 ^ k ≠ 0))) ∧ w' = w := by
  refine cps fun Q hQ => ?_
  obtain ⟨aa, ca, rfl, h1, h2, hr⟩ := ha.reads
  clear ha
  go_enter Try.func55, Try.ntmps55
  go_wp2
  go_loop [5] (fun i => ∃ j : Nat, j ≤ dlen a ∧ Hid (2 ^ (min (24 * j) k) ∣ a) ∧ i = .int .i64 j) (fun i => dlen a - (intOf i).toNat)
  case atStart => exact ⟨0, Nat.zero_le _, by show _ ∣ _; simp, rfl⟩
  case round =>
    obtain ⟨j, hj, hI, rfl⟩ := hrel
    by_cases hlt : j < dlen a
    · by_cases hk2 : 24 * j < k
      · rcases hr with hr | ⟨b, off, rfl, hb, hr⟩
        · omega
        have hcell := hr j hlt
        have hdv := hI.out
        rw [show min (24 * j) k = 24 * j by omega] at hdv
        have hp := low_part a j (min 24 (k - 24 * j)) (by omega) hdv
        have hd0 : top a j % 16777216 ≤ 16777215 := by omega
        have hyes : ¬ 2 ^ (24 * j + min 24 (k - 24 * j)) ∣ a → decide (a % 2 ^ k ≠ 0) = true := by
          intro h
          refine decide_eq_true (fun h0 => h ?_)
          exact Nat.dvd_trans (Nat.pow_dvd_pow 2 (by omega)) (Nat.dvd_of_mod_eq_zero h0)
        have hnx : 24 * j + min 24 (k - 24 * j) = min (24 * (j + 1)) k := by omega
        rw [hnx] at hp hyes
        generalize top a j % 16777216 = D at *
        have hf1 : 0 < 2 ^ (min 24 (k - 24 * j)) := Nat.pow_pos (by decide)
        obtain ⟨x, hx⟩ : ∃ x, x = D % 2 ^ (min 24 (k - 24 * j)) := ⟨_, rfl⟩
        rw [← hx] at hp
        have HY : Hid _ := hyes
        have HP : Hid _ := hp
        have HI : Hid _ := hI
        clear hr hdv hp hyes hnx
        by_cases h24 : k - 24 * j < 24
        · obtain ⟨F, hF⟩ : ∃ F, F = 2 ^ (k - 24 * j) := ⟨_, rfl⟩
          rw [show min 24 (k - 24 * j) = k - 24 * j by omega, ← hF] at hx hf1
          have hxi : (D : Int) % (F : Int) = (x : Int) := by rw [hx]; simp
          have hF2 : F ≤ 16777216 := by rw [hF]; exact Nat.pow_le_pow_right (n := 2) (by decide) (show k - 24 * j ≤ 24 by omega)
          have HF : Hid (F = 2 ^ (k - 24 * j)) := hF
          have hh : (k : Int) - 24 * (j : Int) < 24 := by omega
          clear hF hx
          by_cases hx0 : x = 0
          · have HD := HP.out.1 hx0
            have HDD : Hid _ := HD
            clear HD
            subst hx0
            go_wp2_with (go_at_call 52; refine (two_int _ (k - 24 * j) (by omega) (by omega) _).mono ?_; rintro e w' ⟨rfl, hw⟩; rw [hw, ← HF.out]; clear hw w')
            go_round
            case rel => exact ⟨j + 1, by omega, HDD.out, by go_num⟩
            case measure => simp [intOf]; omega
          · have HT : Hid _ := hQ.out _ w ⟨rfl, rfl⟩
            rw [HY.out (fun h => hx0 (HP.out.2 h))] at HT
            have hx1 : 0 < x := by omega
            go_wp2_with (go_at_call 52; refine (two_int _ (k - 24 * j) (by omega) (by omega) _).mono ?_; rintro e w' ⟨rfl, hw⟩; rw [hw, ← HF.out]; clear hw w')
            exact HT.out
        · rw [show min 24 (k - 24 * j) = 24 by omega] at hx
          have hxi : (D : Int) % 16777216 = (x : Int) := by rw [hx]; simp
          have hh : ¬ (k : Int) - 24 * (j : Int) < 24 := by omega
          clear hx hf1
          by_cases hx0 : x = 0
          · have HD := HP.out.1 hx0
            have HDD : Hid _ := HD
            clear HD
            subst hx0
            go_wp2
            go_round
            case rel => exact ⟨j + 1, by omega, HDD.out, by go_num⟩
            case measure => simp [intOf]; omega
          · have HT : Hid _ := hQ.out _ w ⟨rfl, rfl⟩
            rw [HY.out (fun h => hx0 (HP.out.2 h))] at HT
            have hx1 : 0 < x := by omega
            go_wp2
            exact HT.out
      · have hdv := hI.out
        rw [show min (24 * j) k = k by omega] at hdv
        have e : decide (a % 2 ^ k ≠ 0) = false := by
          refine decide_eq_false (fun h => h ?_)
          exact Nat.mod_eq_zero_of_dvd hdv
        have HT : Hid _ := hQ.out _ w ⟨rfl, rfl⟩
        rw [e] at HT
        clear hdv e hr
        go_wp2
        exact HT.out
    · have e : decide (a % 2 ^ k ≠ 0) = false := by
        refine decide_eq_false (fun h => h ?_)
        have hdv := hI.out
        by_cases h5 : 24 * j ≤ k
        · rw [show min (24 * j) k = 24 * j by omega] at hdv
          rw [low_end a j hdv (by omega)]; simp
        · rw [show min (24 * j) k = k by omega] at hdv
          exact Nat.mod_eq_zero_of_dvd hdv
      have HT : Hid _ := hQ.out _ w ⟨rfl, rfl⟩
      rw [e] at HT
      clear e hr
      go_wp2
      exact HT.out
end Go.Proofs.Ytajlgpamcpgalaa
