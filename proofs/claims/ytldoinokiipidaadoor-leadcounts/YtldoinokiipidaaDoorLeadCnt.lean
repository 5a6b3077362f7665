import Derived.Test.YtldoinokiipidaaDoorLeadE
import Derived.Lib.LaidTab
namespace Go.Proofs.YtldoinokiipidaaDoor
open Go.ChangeShapes Go.WideShapes Go.ChangeAt Go.RowKit
set_option linter.unusedVariables false

/-! ### Len -/
theorem IsLen.one {x L M : Nat} (h : IsLen x L) (k : IsLen x M) : L = M := by
  rcases Nat.lt_trichotomy L M with c | c | c
  · have := k.top (by omega)
    rw [Nat.testBit_lt_two_pow (Nat.lt_of_lt_of_le h.lt (Nat.pow_le_pow_right (by decide) (by omega)))] at this
    cases this
  · exact c
  · have := h.top (by omega)
    rw [Nat.testBit_lt_two_pow (Nat.lt_of_lt_of_le k.lt (Nat.pow_le_pow_right (by decide) (by omega)))] at this
    cases this
theorem lt_of_noBits (x L : Nat) (hx : x < 2 ^ 64) (h : ∀ i, L ≤ i → i < 64 → x.testBit i = false) : x < 2 ^ L := by
  apply Nat.lt_pow_two_of_testBit
  intro i hi
  by_cases h64 : i < 64
  · exact h i hi h64
  · exact Nat.testBit_lt_two_pow (Nat.lt_of_lt_of_le hx (Nat.pow_le_pow_right (by decide) (by omega)))
theorem llen_any (x : Nat) (hx : x < 2 ^ 64) (w : World) :
    Calls Tryd.prog 5 #[.int .u64 x] w fun e w' => ∃ L : Nat, e = .returned (.int .i64 (L : Int)) ∧ IsLen x L ∧ w' = w := by
  refine cps fun Q hQ => ?_
  go_enter Tryd.func5, Tryd.ntmps5
  go_wp2_with (go_at_call 11; refine (len64_any x hx _).mono ?_; rintro e w' ⟨rfl, rfl⟩)
  exact hQ.out _ _ ⟨_, rfl, isLen_bitLen x hx, rfl⟩
theorem rlen_any (x : Nat) (hx : x < 2 ^ 64) (w : World) :
    Calls Tryd.prog 6 #[.int .u64 x] w fun e w' => ∃ L : Nat, e = .returned (.int .i64 (L : Int)) ∧ IsLen x L ∧ Below w.heap.size w w' := by
  have HX : Hid (x < 2 ^ 64) := hx
  clear hx
  refine cps fun Q hQ => ?_
  go_enter Tryd.func6, Tryd.ntmps6
  go_wp2_with (go_at_call 12; refine (text_any x 64 (by omega) _).mono ?_; rintro e w1 ⟨s, rfl, hs, hb⟩; have hsz := isBits_size hs; rw [bitsOf_length] at hsz)
  have hget : Hid (∀ j (hj : j < 64), ((((s[j]'(by omega)).toNat : Int) == 49)) = x.testBit (63 - j)) := fun j hj => by
    rw [isBits_get hs j (by omega), bitsOf_getD]
    simp only [hj, decide_true, Bool.true_and]
    cases x.testBit (64 - 1 - j) <;> rfl
  go_loop [4] (fun i => ∃ k : Nat, k ≤ 64 ∧ i = .int .i64 k ∧ Hid (∀ j, j < k → x.testBit (63 - j) = false)) (fun i => 64 - (intOf i).toNat)
  case atStart => exact ⟨0, Nat.zero_le _, rfl, fun j hj => absurd hj (by omega)⟩
  case round =>
    obtain ⟨k, hk, rfl, hz⟩ := hrel
    by_cases hlt : k < 64
    · have hgk := hget.out k hlt
      have HG : Hid _ := hgk
      clear hgk
      cases hbit : x.testBit (63 - k) with
      | true =>
        rw [hbit] at HG
        have hg := HG.out
        have HB : Hid _ := hbit
        clear hbit
        go_wp2
        refine hQ.out _ _ ⟨64 - k, ret_i (by omega), ⟨by omega, lt_of_noBits x _ HX.out (fun i hi h64 => by have := hz.out (63 - i) (by omega); rwa [show 63 - (63 - i) = i by omega] at this), fun _ => by rw [show 64 - k - 1 = 63 - k by omega]; exact HB.out⟩, hb⟩
      | false =>
        rw [hbit] at HG
        have hg := HG.out
        have HB : Hid _ := hbit
        clear hbit
        go_wp2
        go_round
        case rel => exact ⟨k + 1, by omega, by go_num, fun j hj => by rcases Nat.lt_succ_iff_lt_or_eq.1 hj with c | c; exact hz.out j c; rw [c]; exact HB.out⟩
        case measure => simp [intOf]; omega
    · have hk64 : k = 64 := by omega
      subst hk64
      go_wp2
      exact hQ.out _ _ ⟨0, rfl, ⟨by omega, lt_of_noBits x _ HX.out (fun i _ h64 => by have := hz.out (63 - i) (by omega); rwa [show 63 - (63 - i) = i by omega] at this), fun h => absurd h (by omega)⟩, hb⟩

/-! ### Trail -/
/-- how many noughts stand below the lowest 1 (64 of nought) -/
structure IsTrail (x t : Nat) : Prop where
  le : t ≤ 64
  low : ∀ j, j < t → x.testBit j = false
  top : t < 64 → x.testBit t = true
theorem IsTrail.one {x t u : Nat} (h : IsTrail x t) (k : IsTrail x u) : t = u := by
  rcases Nat.lt_trichotomy t u with c | c | c
  · have := k.low t c; rw [h.top (by have := k.le; omega)] at this; cases this
  · exact c
  · have := h.low u c; rw [k.top (by have := h.le; omega)] at this; cases this
theorem rtrail_any (x : Nat) (w : World) :
    Calls Tryd.prog 8 #[.int .u64 x] w fun e w' => ∃ t : Nat, e = .returned (.int .i64 (t : Int)) ∧ IsTrail x t ∧ Below w.heap.size w w' := by
  refine cps fun Q hQ => ?_
  go_enter Tryd.func8, Tryd.ntmps8
  go_wp2_with (go_at_call 12; refine (text_any x 64 (by omega) _).mono ?_; rintro e w1 ⟨s, rfl, hs, hb⟩; have hsz := isBits_size hs; rw [bitsOf_length] at hsz)
  have hget : Hid (∀ j (hj : j < 64), ((((s[63 - j]'(by omega)).toNat : Int) == 48)) = !x.testBit j) := fun j hj => by
    rw [isBits_get hs (63 - j) (by omega), bitsOf_getD, show 64 - 1 - (63 - j) = j by omega]
    have h63 : 63 - j < 64 := by omega
    simp only [h63, decide_true, Bool.true_and]
    cases x.testBit j <;> rfl
  go_loopw [4] (fun i wr => ∃ k : Nat, k ≤ 64 ∧ i = .int .i64 k ∧ Hid (∀ j, j < k → x.testBit j = false) ∧ Below w.heap.size w wr) (fun i _ => 64 - (intOf i).toNat)
  case atStart => exact ⟨0, Nat.zero_le _, rfl, fun j hj => absurd hj (by omega), hb⟩
  case round =>
    obtain ⟨k, hk, rfl, hz, hbr⟩ := hrel
    by_cases hlt : k < 64
    · have HG : Hid _ := hget.out k hlt
      cases hbit : x.testBit k with
      | true =>
        rw [hbit] at HG
        have hg := HG.out
        have HB : Hid _ := hbit
        clear hbit
        go_wp2
        refine hQ.out _ _ ⟨k, rfl, ⟨hk, hz.out, fun _ => HB.out⟩, hbr⟩
      | false =>
        rw [hbit] at HG
        have hg := HG.out
        have HB : Hid _ := hbit
        clear hbit
        go_wp2
        go_roundw
        case rel => exact ⟨k + 1, by omega, by go_num, fun j hj => (by rcases Nat.lt_succ_iff_lt_or_eq.1 hj with c | c; exact hz.out j c; rw [c]; exact HB.out), hbr⟩
        case measure => simp [intOf]; omega
    · have hk64 : k = 64 := by omega
      subst hk64
      go_wp2
      refine hQ.out _ _ ⟨64, rfl, ⟨by omega, hz.out, fun h => absurd h (by omega)⟩, hbr⟩
theorem exists_odd : ∀ x : Nat, x ≠ 0 → ∃ t m, x = 2 ^ t * (2 * m + 1) := by
  intro x
  induction x using Nat.strongRecOn with
  | ind x ih =>
    intro h
    rcases Nat.mod_two_eq_zero_or_one x with e | e
    · obtain ⟨t, m, hm⟩ := ih (x / 2) (by omega) (by omega)
      exact ⟨t + 1, m, by rw [Nat.pow_succ, Nat.mul_comm (2 ^ t) 2, Nat.mul_assoc, ← hm]; omega⟩
    · exact ⟨0, x / 2, by rw [Nat.pow_zero, Nat.one_mul]; omega⟩
theorem odd_trail (t m : Nat) (h : 2 ^ t * (2 * m + 1) < 2 ^ 64) : IsTrail (2 ^ t * (2 * m + 1)) t ∧ t < 64 := by
  have hp : 0 < 2 ^ t := Nat.pos_of_ne_zero (by simp)
  have ht : t < 64 := by
    rcases Nat.lt_or_ge t 64 with c | c
    · exact c
    · have : 2 ^ 64 ≤ 2 ^ t := Nat.pow_le_pow_right (by decide) c
      have : 2 ^ t * 1 ≤ 2 ^ t * (2 * m + 1) := Nat.mul_le_mul_left _ (by omega)
      omega
  refine ⟨⟨by omega, fun j hj => ?_, fun _ => ?_⟩, ht⟩
  · have e := Nat.testBit_two_pow_mul_add (2 * m + 1) hp j
    rw [Nat.add_zero, if_pos hj] at e
    rw [e]; simp
  · have e := Nat.testBit_two_pow_mul_add (2 * m + 1) hp t
    rw [Nat.add_zero, if_neg (by omega), Nat.sub_self] at e
    rw [e, Nat.testBit_zero]
    simp
theorem low_and (t m : Nat) (h : 2 ^ t * (2 * m + 1) < 2 ^ 64) : (2 ^ t * (2 * m + 1)) &&& (2 ^ 64 - 2 ^ t * (2 * m + 1)) = 2 ^ t := by
  obtain ⟨ht, h64⟩ := odd_trail t m h
  have hp : 0 < 2 ^ t := Nat.pos_of_ne_zero (by simp)
  obtain ⟨x, hx⟩ : ∃ x, x = 2 ^ t * (2 * m + 1) := ⟨_, rfl⟩
  rw [← hx] at h ht ⊢
  have hx0 : 0 < x := by rw [hx]; exact Nat.mul_pos hp (by omega)
  have hpred : x - 1 = 2 ^ t * (2 * m) + (2 ^ t - 1) := by rw [hx, Nat.mul_add]; omega
  have hpt : 2 ^ t - 1 < 2 ^ t := by omega
  have hneg : 2 ^ 64 - x = 2 ^ 64 - ((x - 1) + 1) := by omega
  apply Nat.eq_of_testBit_eq
  intro i
  rw [Nat.testBit_and, Nat.testBit_two_pow, hneg, Nat.testBit_two_pow_sub_succ (by omega), hpred, Nat.testBit_two_pow_mul_add _ hpt]
  rcases Nat.lt_trichotomy i t with c | c | c
  · rw [ht.low i c]; simp; omega
  · subst c
    rw [ht.top h64]; simp [h64]
  · have e := Nat.testBit_two_pow_mul_add (2 * m + 1) hp i
    rw [Nat.add_zero, ← hx, if_neg (by omega)] at e
    rw [e, if_neg (by omega)]
    obtain ⟨j, hj⟩ : ∃ j, i - t = j + 1 := ⟨i - t - 1, by omega⟩
    rw [hj, Nat.testBit_succ, Nat.testBit_succ, show (2 * m + 1) / 2 = 2 * m / 2 by omega]
    have : ¬ t = i := by omega
    cases (2 * m / 2).testBit j <;> simp [this]
def bruijn : List Int := [0, 1, 56, 2, 57, 49, 28, 3, 61, 58, 42, 50, 38, 29, 17, 4, 62, 47, 59, 36, 45, 43, 51, 22, 53, 39, 33, 30, 24, 18, 12, 5, 63, 55, 48, 27, 60, 41, 37, 16, 46, 35, 44, 21, 52, 32, 23, 11, 54, 26, 40, 15, 34, 20, 31, 10, 25, 14, 19, 9, 13, 8, 7, 6]
theorem bruijn_at : ∀ t : Fin 64, bruijn.getD ((2 ^ t.val * 285870213051353865) % 18446744073709551616 / 288230376151711744) 99 = t.val := by decide +kernel
theorem negN (x : Nat) (h0 : 0 < x) (h : x < 2 ^ 64) : IntKind.u64.wrap (-(x : Int)) = ((2 ^ 64 - x : Nat) : Int) := by rw [IntKind.wrap_u64]; omega
theorem ltz_any (x : Nat) (hx : x < 2 ^ 64) (w : World) (ht : ∀ i, i < 64 → w.cell? ⟨0, i, none⟩ = some (.int .u8 (bruijn.getD i 99))) :
    Calls Tryd.prog 13 #[.int .u64 x] w fun e w' => ∃ t : Nat, e = .returned (.int .i64 (t : Int)) ∧ IsTrail x t ∧ w' = w := by
  by_cases h0 : x = 0
  · subst h0
    refine cps fun Q hQ => ?_
    go_enter Tryd.func13, Tryd.ntmps13
    go_wp2
    exact hQ.out _ _ ⟨64, rfl, ⟨by omega, by simp, fun h => absurd h (by omega)⟩, rfl⟩
  · obtain ⟨t, m, hm⟩ := exists_odd x h0
    have hx' := hx
    rw [hm] at hx'
    obtain ⟨htr, h64⟩ := odd_trail t m hx'
    have hand := low_and t m hx'
    rw [← hm] at htr hand
    have e1 := negN x (by omega) hx
    have e2 : bits BinOp.and IntKind.u64 (x : Int) ((2 ^ 64 - x : Nat) : Int) = ((2 ^ t : Nat) : Int) := by rw [u64_and_nat _ _ hx (by omega), hand]
    have hb := bruijn_at ⟨t, h64⟩
    simp only at hb
    obtain ⟨P2, hP2⟩ : ∃ P2, P2 = (2 ^ t) := ⟨_, rfl⟩
    rw [← hP2] at hb e2
    obtain ⟨I, hI⟩ : ∃ I, I = (P2 * 285870213051353865) % 18446744073709551616 / 288230376151711744 := ⟨_, rfl⟩
    have hIl : I < 64 := by rw [hI]; omega
    have e3 : IntKind.u64.wrap ((P2 : Int) * 285870213051353865) / 288230376151711744 = (I : Int) := by rw [IntKind.wrap_u64, hI, Int.natCast_ediv, Int.natCast_emod, Int.natCast_mul]; rfl
    rw [← hI] at hb
    have hc := ht I hIl
    rw [hb] at hc
    have hne : ((x : Int) == 0) = false := by simp; omega
    obtain ⟨N, hN⟩ : ∃ N, N = (2 ^ 64 - x) := ⟨_, rfl⟩
    rw [← hN] at e1 e2
    clear hI hb ht hm hx' hand hN hP2 hx h0
    refine cps fun Q hQ => ?_
    go_enter Tryd.func13, Tryd.ntmps13
    go_wp2
    exact hQ.out _ _ ⟨t, rfl, htr, rfl⟩
theorem ltrail_any (x : Nat) (hx : x < 2 ^ 64) (w : World) (ht : ∀ i, i < 64 → w.cell? ⟨0, i, none⟩ = some (.int .u8 (bruijn.getD i 99))) :
    Calls Tryd.prog 7 #[.int .u64 x] w fun e w' => ∃ t : Nat, e = .returned (.int .i64 (t : Int)) ∧ IsTrail x t ∧ w' = w := by
  have HT : Hid _ := ht
  clear ht
  refine cps fun Q hQ => ?_
  go_enter Tryd.func7, Tryd.ntmps7
  go_wp2_with (go_at_call 13; refine (ltz_any x hx _ HT.out).mono ?_; rintro e w' ⟨t, rfl, htr, rfl⟩)
  exact hQ.out _ _ ⟨_, rfl, htr, rfl⟩
theorem leadCounts_walk (a0 : Int) (w0 : (Lit.int .u64 a0).wf = true) (w : World) (hw : 0 < w.heap.size) (ht : ∀ i, i < 64 → w.cell? ⟨0, i, none⟩ = some (.int .u8 (bruijn.getD i 99))) :
    Calls Tryd.prog 3 #[.int .u64 a0] w fun e w' => e = .returned (.bool true) ∧ Below w.heap.size w w' := by
  obtain ⟨x, rfl, hx⟩ := nat_of_u64 w0
  have HX : Hid (x < 2 ^ 64) := hx
  have HT : Hid _ := ht
  clear w0 hx ht
  refine cps fun Q hQ => ?_
  go_enter Tryd.func3, Tryd.ntmps3
  go_wp2_with first
    | (go_at_call 4; refine (up_any _).mono ?_; rintro e w1 ⟨rfl, hb1⟩)
    | (go_at_call 5; refine (llen_any x HX.out _).mono ?_; rintro e w' ⟨L, rfl, hL, rfl⟩)
    | (go_at_call 6; refine (rlen_any x HX.out _).mono ?_; rintro e w2 ⟨M, rfl, hM, hb2⟩; have hLM := hM.one hL; subst hLM; have hb12 := hb1.trans (hb2.mono hb1.size))
    | (go_at_call 7; go_must (refine (ltrail_any x HX.out _ (fun i hi => (hb12.cell (p := ⟨0, i, none⟩) hw).trans (HT.out i hi))).mono ?_); rintro e w' ⟨t, rfl, ht, rfl⟩)
    | (go_at_call 8; refine (rtrail_any x _).mono ?_; rintro e w3 ⟨u, rfl, hu, hb3⟩; have htu := hu.one ht; subst htu)
  exact hQ.out _ _ ⟨rfl, hb12.trans (hb3.mono hb12.size)⟩
end Go.Proofs.YtldoinokiipidaaDoor
