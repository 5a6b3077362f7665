import Derived.Test.YtajlgpamcpgalaaLeadB
namespace Go.Proofs.Ytajlgpamcpgalaa
open Go.ChangeShapes Go.WideShapes Go.ChangeAt Go.RowKit

/-! ### Extend -/
def bad (n : Int) : Bool := decide (n < 1) || decide (64 < n)
theorem lext_no (x : Nat) (n : Int) (hn : n < 1 ∨ 64 < n) (w : World) :
    Calls Try.prog 80 #[.int .u64 x, .int .i64 n] w fun e w' => e = .returned (.tuple #[.int .i64 0, .iface 51 (.int .i64 1)]) ∧ w' = w := by
  refine cps fun Q hQ => ?_
  rcases hn with hn | hn
  · go_enter Try.func80, Try.ntmps80
    go_wp2
    refine hQ.out _ _ ⟨rfl, rfl⟩
  · have : ¬ n < 1 := by omega
    go_enter Try.func80, Try.ntmps80
    go_wp2
    refine hQ.out _ _ ⟨rfl, rfl⟩
theorem rext_no (x : Nat) (n : Int) (hn : n < 1 ∨ 64 < n) (w : World) :
    Calls Try.prog 71 #[.int .u64 x, .int .i64 n] w fun e w' => e = .returned (.tuple #[.int .i64 0, .int .i64 1]) ∧ w' = w := by
  refine cps fun Q hQ => ?_
  rcases hn with hn | hn
  · go_enter Try.func71, Try.ntmps71
    go_wp2
    refine hQ.out _ _ ⟨rfl, rfl⟩
  · have : ¬ n < 1 := by omega
    go_enter Try.func71, Try.ntmps71
    go_wp2
    refine hQ.out _ _ ⟨rfl, rfl⟩
def extOf (x n : Nat) : Int := ((x % 2 ^ n : Nat) : Int) - ((x.testBit (n - 1)).toNat * 2 ^ n : Nat)
theorem numOf_bitsOf (x n : Nat) : numOf (bitsOf x n) = x % 2 ^ n := by
  apply Nat.eq_of_testBit_eq
  intro i
  rw [numOf_testBit, bitsOf_length, Nat.testBit_mod_two_pow, bitsOf_getD]
  by_cases h : i < n
  · have e : n - 1 - (n - 1 - i) = i := by omega
    have e2 : n - 1 - i < n := by omega
    simp [h, e, e2]
  · simp [h]
theorem top_bit (y m : Nat) (h : y < 2 * 2 ^ m) : y.testBit m = decide (2 ^ m ≤ y) := by
  have h0 : 0 < 2 ^ m := Nat.pos_of_ne_zero (by simp)
  rw [Nat.testBit_eq_decide_div_mod_eq]
  by_cases hc : 2 ^ m ≤ y
  · have h1 : 1 ≤ y / 2 ^ m := (Nat.le_div_iff_mul_le h0).2 (by omega)
    have h2 : y / 2 ^ m < 2 := (Nat.div_lt_iff_lt_mul h0).2 (by omega)
    have : y / 2 ^ m = 1 := by omega
    simp [hc, this]
  · rw [Nat.div_eq_of_lt (by omega)]; simp; omega
theorem ext_eq (x n : Nat) (h1 : 1 ≤ n) (h2 : n ≤ 64) : wrap64 (IntKind.u64.wrap ((x : Int) * 2 ^ (64 - n))) / 2 ^ (64 - n) = extOf x n := by
  obtain ⟨d, hd⟩ : ∃ d, d = 64 - n := ⟨_, rfl⟩
  rw [← hd]
  have e64 : 2 ^ n * 2 ^ d = 2 ^ 64 := by rw [← Nat.pow_add]; congr 1; omega
  have e63 : 2 ^ (n - 1) * 2 ^ d = 2 ^ 63 := by rw [← Nat.pow_add]; congr 1; omega
  have hnn : 2 ^ n = 2 * 2 ^ (n - 1) := by rw [← Nat.pow_succ']; congr 1; omega
  have hd0 : 0 < 2 ^ d := Nat.pos_of_ne_zero (by simp)
  have hy : x % 2 ^ n < 2 ^ n := Nat.mod_lt _ (Nat.pos_of_ne_zero (by simp))
  rw [wrapShl, Nat.shiftLeft_eq, ← e64, Nat.mul_mod_mul_right]
  have hb : x.testBit (n - 1) = decide (2 ^ (n - 1) ≤ x % 2 ^ n) := by
    rw [← top_bit _ _ (by omega), Nat.testBit_mod_two_pow]; simp; omega
  rw [extOf, hb]
  generalize x % 2 ^ n = y at *
  have ed : ((2 : Int) ^ d) = ((2 ^ d : Nat) : Int) := by simp
  rw [ed]
  have hlt : y * 2 ^ d < 2 ^ 64 := by rw [← e64]; exact Nat.mul_lt_mul_of_pos_right hy hd0
  by_cases hc : 2 ^ (n - 1) ≤ y
  · have hge : 2 ^ 63 ≤ y * 2 ^ d := by rw [← e63]; exact Nat.mul_le_mul_right _ hc
    have e : wrap64 ((y * 2 ^ d : Nat) : Int) = ((y : Int) - (2 ^ n : Nat)) * (2 ^ d : Nat) := by
      rw [Int.sub_mul, ← Int.natCast_mul, ← Int.natCast_mul, e64]; unfold wrap64; omega
    rw [e, Int.mul_ediv_cancel _ (by omega)]; simp [hc]
  · have hl : y * 2 ^ d < 2 ^ 63 := by rw [← e63]; exact Nat.mul_lt_mul_of_pos_right (by omega) hd0
    have e : wrap64 ((y * 2 ^ d : Nat) : Int) = (y : Int) * (2 ^ d : Nat) := by
      rw [← Int.natCast_mul]; unfold wrap64; omega
    rw [e, Int.mul_ediv_cancel _ (by omega)]; simp [hc]
theorem lext_ok (x n : Nat) (h1 : 1 ≤ n) (h2 : n ≤ 64) (w : World) :
    Calls Try.prog 80 #[.int .u64 x, .int .i64 n] w fun e w' => e = .returned (.tuple #[.int .i64 (extOf x n), .nilIface]) ∧ w' = w := by
  refine cps fun Q hQ => ?_
  go_enter Try.func80, Try.ntmps80
  go_wp2
  exact hQ.out _ _ ⟨ret_ix (ext_eq x n h1 h2), rfl⟩
theorem ext_char (b : Bool) (v : Int) (h : -4611686018427387904 ≤ v) (h' : v < 4611686018427387904) : wrap64 (wrap64 (2 * v) + (((bitByte b).toNat : Int) - 48) % 256) = 2 * v + b.toNat := by
  unfold wrap64
  cases b <;> simp [bitByte] <;> omega
theorem ext_bounds (l : List Bool) (k : Nat) (b : Bool) (hl : l.length ≤ k) (hk : k ≤ 63) (h1 : 1 ≤ l.length) (hb : l[0]? = some b) (hlk : l.length = k) :
    -4611686018427387904 ≤ ((numOf l : Nat) : Int) - ((b.toNat * 2 ^ k : Nat) : Int) ∧ ((numOf l : Nat) : Int) - ((b.toNat * 2 ^ k : Nat) : Int) < 4611686018427387904 := by
  match l, hb with
  | c :: t, hb =>
    simp at hb
    subst hb
    have ht := numOf_lt t
    rw [numOf_cons]
    simp only [List.length_cons] at hlk
    subst hlk
    have h2 : 2 ^ t.length ≤ 2 ^ 62 := Nat.pow_le_pow_right (by decide) (by omega)
    rw [Nat.pow_succ]
    generalize 2 ^ t.length = P at *
    cases c
    · simp only [Bool.toNat_false]; omega
    · simp only [Bool.toNat_true]; omega
def extTill (x n k : Nat) : Int := ((numOf ((bitsOf x n).take k) : Nat) : Int) - ((x.testBit (n - 1)).toNat * 2 ^ k : Nat)
theorem rext_step (x n k : Nat) (h1 : 1 ≤ k) (hk : k < n) (h2 : n ≤ 64) :
    wrap64 (wrap64 (2 * extTill x n k) + (((bitByte ((bitsOf x n).getD k false)).toNat : Int) - 48) % 256) = extTill x n (k + 1) := by
  have hl : ((bitsOf x n).take k).length = k := by simp [bitsOf_length]; omega
  have hb := ext_bounds ((bitsOf x n).take k) k (x.testBit (n - 1)) (by omega) (by omega) (by omega) (by rw [List.getElem?_take_of_lt (by omega), bitsOf_get x n 0 (by omega)]; rfl) hl
  rw [extTill, ext_char _ _ hb.1 hb.2, extTill, numOf_step _ k (by rw [bitsOf_length]; omega)]
  rw [Nat.pow_succ, ← Nat.mul_assoc]
  omega
theorem extTill_one (x n : Nat) (h1 : 1 ≤ n) : extTill x n 1 = -((x.testBit (n - 1)).toNat : Int) := by
  rw [extTill, numOf_step _ 0 (by rw [bitsOf_length]; omega), bitsOf_getD]
  have : 0 < n := by omega
  simp [this, numOf]
  cases x.testBit (n - 1) <;> simp
theorem extTill_all (x n : Nat) : extTill x n n = extOf x n := by
  rw [extTill, extOf, List.take_of_length_le (by rw [bitsOf_length]; omega), numOf_bitsOf]
theorem rext_ok (x n : Nat) (h1 : 1 ≤ n) (h2 : n ≤ 64) (w : World) :
    Calls Try.prog 71 #[.int .u64 x, .int .i64 n] w fun e w' => e = .returned (.tuple #[.int .i64 (extOf x n), .int .i64 0]) ∧ Below w.heap.size w w' := by
  refine cps fun Q hQ => ?_
  have hstart : Hid (extTill x n 1 = -((x.testBit (n - 1)).toNat : Int)) := extTill_one x n h1
  cases hb0 : x.testBit (n - 1)
  all_goals
    rw [hb0] at hstart
    go_enter Try.func71, Try.ntmps71
    go_wp2_with (go_at_call 36; refine (text_any x n (by omega) _).mono ?_; rintro e w1 ⟨s, rfl, hs, hb⟩; have hsz := isBits_size hs; rw [bitsOf_length] at hsz; have hs0 := isBits_get hs 0 (by omega); rw [bitsOf_getD, Nat.sub_zero, hb0] at hs0; have hpos : 0 < n := (by omega); simp only [hpos, decide_true, Bool.true_and, bitByte] at hs0)
    go_loop [7, 8] (fun v i => ∃ (k : Nat) (V : Int), 1 ≤ k ∧ k ≤ n ∧ i = .int .i64 k ∧ v = .int .i64 V ∧ Hid (V = extTill x n k)) (fun _ i => n - (intOf i).toNat)
    case atStart => exact ⟨1, _, by omega, h1, rfl, rfl, hstart.out.symm⟩
    case round =>
      obtain ⟨k, V, hk1, hk, rfl, rfl, hV⟩ := hrel
      by_cases hlt : k < n
      · have hsk : Hid (s[k]'(by omega) = _) := isBits_get hs k (by omega)
        clear hs0
        go_wp2
        go_round
        case rel => exact ⟨k + 1, _, by omega, by omega, by go_num, rfl, by rw [hV.out, hsk.out]; exact rext_step x n k hk1 hlt h2⟩
        case measure => simp [intOf]; omega
      · have hkn : k = n := by omega
        subst hkn
        go_wp2
        exact hQ.out _ _ ⟨ret_ix (by rw [hV.out]; exact extTill_all x k), hb⟩
end Go.Proofs.Ytajlgpamcpgalaa
