import Derived.Test.YtajlgpamcpgalaaShapeA
namespace Go.Proofs.Ytajlgpamcpgalaa
open Go.ChangeShapes Go.WideShapes Go.ChangeAt Go.RowKit
set_option linter.unusedVariables false
set_option linter.unusedSimpArgs false
set_option maxRecDepth 100000

/-! ### patterns, folded -/
theorem fieldOf_low (x n : Nat) : fieldOf x (0 : Int).toNat ((n : Int)).toNat = x % 2 ^ n := by simp [fieldOf]
theorem fold_ok (n x : Nat) (hn : Wd n) (hx : x < 2 ^ 64) (w : World) :
    Calls Try.prog 41 #[.int .i64 n, .int .u64 x] w fun e w' => e = .returned (.tuple #[.int .u64 (x % 2 ^ n : Nat), .nilIface]) ∧ Below w.heap.size w w' := by
  have k1 := known_any n
  rw [isW_of hn] at k1
  have hw := wd_le hn
  have k2 := fun w => lfield_ok x 0 n hx (by simp [isField]; omega) w
  simp only [fieldOf_low] at k2
  clear hx hn hw
  refine cps fun Q hQ => ?_
  generalize x % 2 ^ n = y at *
  go_enter Try.func41, Try.ntmps41
  go_wp2_with (first
    | (go_at_call 58; refine (k1 _).mono ?_; rintro e w1 ⟨rfl, hb1⟩)
    | (go_at_call 66; refine (k2 _).mono ?_; rintro e w' ⟨rfl, q, rfl⟩))
  exact hQ.out _ _ ⟨rfl, below_drewN hb1 q⟩
theorem fold_no (n : Int) (x : Nat) (hn : isW n = false) (w : World) :
    Calls Try.prog 41 #[.int .i64 n, .int .u64 x] w fun e w' => e = .returned (.tuple #[.int .u64 0, .iface 51 (.int .i64 2)]) ∧ Below w.heap.size w w' := by
  have k1 := known_any n
  rw [hn] at k1
  clear hn
  refine cps fun Q hQ => ?_
  go_enter Try.func41, Try.ntmps41
  go_wp2_with (go_at_call 58; refine (k1 _).mono ?_; rintro e w1 ⟨rfl, hb1⟩)
  exact hQ.out _ _ ⟨rfl, hb1⟩
theorem rfold_ok (n x : Nat) (hn : Wd n) (w : World) :
    Calls Try.prog 45 #[.int .i64 n, .int .u64 x] w fun e w' => e = .returned (.tuple #[.int .u64 (x % 2 ^ n : Nat), .int .i64 0]) ∧ Below w.heap.size w w' := by
  have k1 := is_width n
  rw [isW_of hn] at k1
  have hw := (wd_le hn).2
  have hnum := numOf_bitsOf x n
  clear hn
  refine cps fun Q hQ => ?_
  rw [← hnum] at hQ
  clear hnum
  go_enter Try.func45, Try.ntmps45
  go_wp2_with (first
    | (go_at_call 20; refine (k1 _).mono ?_; rintro e w1 ⟨rfl, rfl⟩)
    | (go_at_call 36; refine (text_any x n hw _).mono ?_; rintro e w2 ⟨s, rfl, hs, hb⟩)
    | (go_at_call 39; go_must (refine (number_any _ _ hs (by rw [bitsOf_length]; exact hw) _).mono ?_); rintro e w' ⟨rfl, rfl⟩))
  exact hQ.out _ _ ⟨rfl, hb⟩
theorem rfold_no (n : Int) (x : Nat) (hn : isW n = false) (w : World) :
    Calls Try.prog 45 #[.int .i64 n, .int .u64 x] w fun e w' => e = .returned (.tuple #[.int .u64 0, .int .i64 2]) ∧ w' = w := by
  have k1 := is_width n
  rw [hn] at k1
  clear hn
  refine cps fun Q hQ => ?_
  go_enter Try.func45, Try.ntmps45
  go_wp2_with (go_at_call 20; refine (k1 _).mono ?_; rintro e w1 ⟨rfl, rfl⟩)
  exact hQ.out _ _ ⟨rfl, rfl⟩

/-! ### Kind -/
def kindOf (n y : Nat) : Int := if y = 0 then 0 else if y = 2 ^ (n - 1) then 2 else 1
theorem kind_ok (n x : Nat) (hn : Wd n) (hx : x < 2 ^ 64) (w : World) :
    Calls Try.prog 43 #[.int .i64 n, .int .u64 x] w fun e w' => e = .returned (.tuple #[.int .i64 (kindOf n (x % 2 ^ n)), .nilIface]) ∧ Below w.heap.size w w' := by
  have k1 := fold_ok n x hn hx
  have hw := wd_le hn
  have k2 := nar_any n (by omega) hw.2
  clear hn hx
  refine cps fun Q hQ => ?_
  unfold kindOf at hQ
  generalize x % 2 ^ n = y at *
  generalize 2 ^ (n - 1) = m at *
  by_cases h0 : y = 0
  · subst h0
    rw [if_pos rfl] at hQ
    go_enter Try.func43, Try.ntmps43
    go_wp2_with (go_at_call 41; refine (k1 _).mono ?_; rintro e w1 ⟨rfl, hb1⟩)
    exact hQ.out _ _ ⟨rfl, hb1⟩
  · rw [if_neg h0] at hQ
    have hd : ((y : Int) == 0) = false := beq_eq_false_iff_ne.2 (by omega)
    by_cases hm : y = m
    · rw [if_pos hm] at hQ
      have hd2 : ((y : Int) == (m : Int)) = true := beq_iff_eq.2 (by omega)
      clear h0 hm
      go_enter Try.func43, Try.ntmps43
      go_wp2_with (first
        | (go_at_call 41; refine (k1 _).mono ?_; rintro e w1 ⟨rfl, hb1⟩)
        | (go_at_call 59; refine (k2 _).mono ?_; rintro e w1 ⟨rfl, rfl⟩))
      exact hQ.out _ _ ⟨rfl, hb1⟩
    · rw [if_neg hm] at hQ
      have hd2 : ((y : Int) == (m : Int)) = false := beq_eq_false_iff_ne.2 (by omega)
      clear h0 hm
      go_enter Try.func43, Try.ntmps43
      go_wp2_with (first
        | (go_at_call 41; refine (k1 _).mono ?_; rintro e w1 ⟨rfl, hb1⟩)
        | (go_at_call 59; refine (k2 _).mono ?_; rintro e w1 ⟨rfl, rfl⟩))
      exact hQ.out _ _ ⟨rfl, hb1⟩
theorem kind_no (n : Int) (x : Nat) (hn : isW n = false) (w : World) :
    Calls Try.prog 43 #[.int .i64 n, .int .u64 x] w fun e w' => e = .returned (.tuple #[.int .i64 0, .iface 51 (.int .i64 2)]) ∧ Below w.heap.size w w' := by
  have k1 := fold_no n x hn
  clear hn
  refine cps fun Q hQ => ?_
  go_enter Try.func43, Try.ntmps43
  go_wp2_with (go_at_call 41; refine (k1 _).mono ?_; rintro e w1 ⟨rfl, hb1⟩)
  exact hQ.out _ _ ⟨rfl, hb1⟩
/-! ### Rank, Pattern -/
theorem rank_ok (n x : Nat) (hn : Wd n) (w : World) :
    Calls Try.prog 67 #[.int .i64 n, .int .u64 x] w fun e w' => e = .returned (.tuple #[.int .i64 (extOf x n), .nilIface]) ∧ Below w.heap.size w w' := by
  have k1 := known_any n
  rw [isW_of hn] at k1
  have hw := wd_le hn
  have k2 := lext_ok x n (by omega) hw.2
  clear hn
  refine cps fun Q hQ => ?_
  generalize extOf x n = y at *
  go_enter Try.func67, Try.ntmps67
  go_wp2_with (first
    | (go_at_call 58; refine (k1 _).mono ?_; rintro e w1 ⟨rfl, hb1⟩)
    | (go_at_call 80; refine (k2 _).mono ?_; rintro e w' ⟨rfl, rfl⟩))
  exact hQ.out _ _ ⟨rfl, hb1⟩
theorem rank_no (n : Int) (x : Nat) (hn : isW n = false) (w : World) :
    Calls Try.prog 67 #[.int .i64 n, .int .u64 x] w fun e w' => e = .returned (.tuple #[.int .i64 0, .iface 51 (.int .i64 2)]) ∧ Below w.heap.size w w' := by
  have k1 := known_any n
  rw [hn] at k1
  clear hn
  refine cps fun Q hQ => ?_
  go_enter Try.func67, Try.ntmps67
  go_wp2_with (go_at_call 58; refine (k1 _).mono ?_; rintro e w1 ⟨rfl, hb1⟩)
  exact hQ.out _ _ ⟨rfl, hb1⟩
theorem rrank_ok (n x : Nat) (hn : Wd n) (w : World) :
    Calls Try.prog 47 #[.int .i64 n, .int .u64 x] w fun e w' => e = .returned (.tuple #[.int .i64 (extOf x n), .int .i64 0]) ∧ Below w.heap.size w w' := by
  have k1 := is_width n
  rw [isW_of hn] at k1
  have hw := wd_le hn
  have k2 := rext_ok x n (by omega) hw.2
  clear hn
  refine cps fun Q hQ => ?_
  generalize extOf x n = y at *
  go_enter Try.func47, Try.ntmps47
  go_wp2_with (first
    | (go_at_call 20; refine (k1 _).mono ?_; rintro e w1 ⟨rfl, rfl⟩)
    | (go_at_call 71; refine (k2 _).mono ?_; rintro e w2 ⟨rfl, hb2⟩))
  exact hQ.out _ _ ⟨rfl, hb2⟩
theorem rrank_no (n : Int) (x : Nat) (hn : isW n = false) (w : World) :
    Calls Try.prog 47 #[.int .i64 n, .int .u64 x] w fun e w' => e = .returned (.tuple #[.int .i64 0, .int .i64 2]) ∧ w' = w := by
  have k1 := is_width n
  rw [hn] at k1
  clear hn
  refine cps fun Q hQ => ?_
  go_enter Try.func47, Try.ntmps47
  go_wp2_with (go_at_call 20; refine (k1 _).mono ?_; rintro e w1 ⟨rfl, rfl⟩)
  exact hQ.out _ _ ⟨rfl, rfl⟩
/-- the lowest 64 bits of a signed number -/
def u64Of (r : Int) : Nat := (r % 18446744073709551616).toNat
theorem u64Of_lt (r : Int) : u64Of r < 2 ^ 64 := by unfold u64Of; omega
theorem u64Of_wrap (r : Int) : IntKind.u64.wrap r = (u64Of r : Int) := by rw [IntKind.wrap_u64]; unfold u64Of; omega
def patOk (n : Nat) (r : Int) : Bool := decide (extOf (u64Of r % 2 ^ n) n = r)
end Go.Proofs.Ytajlgpamcpgalaa
