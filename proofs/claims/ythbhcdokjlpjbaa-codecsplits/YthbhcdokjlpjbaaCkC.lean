import Derived.Test.YthbhcdokjlpjbaaCkB
namespace Go.Proofs.Ythbhcdokjlpjbaa
open Go.ChangeShapes Go.WideShapes Go.ChangeAt Go.RowKit
set_option linter.unusedVariables false
set_option linter.unusedSimpArgs false
set_option maxRecDepth 100000

/-! ### assemble -/
theorem putOf_lt (x at_ m v : Nat) (hx : x < 2 ^ 64) : putOf x at_ m v < 2 ^ 64 := by
  unfold putOf
  exact Nat.or_lt_two_pow (Nat.lt_of_le_of_lt Nat.and_le_left hx) (Nat.lt_of_le_of_lt Nat.and_le_left (Nat.mod_lt _ (by decide)))
def asmV (n run : Nat) (ex : Int) : Nat := u64Of (ex / 2 ^ (2 - min (n - 2 - run) 2))
def asmP (n : Nat) (neg ones : Bool) (run : Nat) (ex : Int) (fr : Nat) : Nat :=
  if neg then minusU (numOf (asmL n ones run (asmV n run ex) fr)) % 2 ^ n else numOf (asmL n ones run (asmV n run ex) fr)
theorem isField_nat {a m : Nat} (h : a + m ≤ 64) : isField a m = true := by simp [isField]; omega
theorem put_nat (x v a m : Nat) (hx : x < 2 ^ 64) (h : a + m ≤ 64) (A M : Int) (hA : A = a) (hM : M = m) (w : World) :
    Calls Try.prog 51 #[.int .u64 x, .int .i64 A, .int .i64 M, .int .u64 v] w fun e w' => e = .returned (.tuple #[.int .u64 (putOf x a m v : Nat), .nilIface]) ∧ ∃ q, w' = w.drewN q := by
  subst hA hM
  have := lput_ok x v a m hx (isField_nat h) w
  rwa [Int.toNat_natCast, Int.toNat_natCast] at this
theorem put_first (v a m : Nat) (V : Int) (h : a + m ≤ 64) (A M : Int) (hA : A = a) (hM : M = m) (hV : V = v) (w : World) :
    Calls Try.prog 51 #[.int .u64 0, .int .i64 A, .int .i64 M, .int .u64 V] w fun e w' => e = .returned (.tuple #[.int .u64 (putOf 0 a m v : Nat), .nilIface]) ∧ ∃ q, w' = w.drewN q := by
  subst hV
  exact put_nat 0 v a m (by decide) h A M hA hM w
theorem put_nat1 (x v a m : Nat) (V : Int) (hx : x < 2 ^ 64) (h : a + m ≤ 64) (A M : Int) (hA : A = a) (hM : M = m) (hV : V = v) (w : World) :
    Calls Try.prog 51 #[.int .u64 x, .int .i64 A, .int .i64 M, .int .u64 V] w fun e w' => e = .returned (.tuple #[.int .u64 (putOf x a m v : Nat), .nilIface]) ∧ ∃ q, w' = w.drewN q := by
  subst hV
  exact put_nat x v a m hx h A M hA hM w
theorem assemble_end (n : Nat) (hn : Wd n) (neg ones : Bool) (run : Nat) (h1 : 1 ≤ run) (h2 : run = n - 1) (reg eb ex fb : Int) (fr : Nat) (hfr : fr < 2 ^ 64) (w : World) :
    Calls Try.prog 34 #[.int .i64 n, fdI neg ones run reg eb ex fb fr] w fun e w' => e = .returned (.int .u64 (asmP n neg ones run ex fr : Nat)) ∧ Below w.heap.size w w' := by
  have hw := wd_le hn
  have hA := asm_end n ones run (asmV n run ex) fr hw.2 h2
  have hx0 : bits BinOp.xor IntKind.u64 (if IntKind.u64.signed = true then -1 else IntKind.u64.max) 0 = 18446744073709551615 := by decide
  have hrb : (n : Int) - 1 - run = 0 := by omega
  have kr := croom_any n run hw.2 (by omega)
  have hE0 : n - 2 - run = 0 := by omega
  rw [hE0] at kr
  unfold asmP
  rw [← hA]
  have hv : asmV n run ex = u64Of (ex / 4) := by unfold asmV; rw [hE0]; rfl
  rw [hv]
  have e3 : ∀ t : Int, IntKind.u64.wrap t = (u64Of t : Int) := fun t => u64Of_wrap _
  have hE3 : Hid (∀ t : Int, IntKind.u64.wrap t = (u64Of t : Int)) := e3
  clear e3
  have p0 := fun V hV => put_first (wordB ones) 0 run V (by omega) 0 run rfl rfl hV
  have l0 := putOf_lt 0 0 run (wordB ones) (by decide)
  obtain ⟨v1, hv1⟩ : ∃ v1, v1 = u64Of (ex / 4) := ⟨_, rfl⟩
  rw [← hv1]
  have p1 := put_nat _ v1 0 0 l0 (by decide) 0 0 rfl rfl
  have l1 := putOf_lt _ 0 0 v1 l0
  have p2 := put_nat _ fr 0 0 l1 (by decide) 0 0 rfl rfl
  have l2 := putOf_lt _ 0 0 fr l1
  have hs : IntKind.u64.wrap (ex / 4) = (v1 : Int) := by rw [hE3.out, hv1]
  have hs2 : ex / 4 % 18446744073709551616 = (v1 : Int) := by rw [← hs, IntKind.wrap_u64]
  clear hv1
  generalize putOf 0 0 run (wordB ones) = P0 at *
  generalize putOf P0 0 0 v1 = P1 at *
  generalize putOf P1 0 0 fr = P2 at *
  have k4 := fold_ok n (minusU P2) hn (minusU_lt _)
  have hm := minusU_wrap P2 l2
  generalize minusU P2 = P3 at *
  generalize P3 % 2 ^ n = P4 at *
  have hb64 : run ≤ 64 := by omega
  clear hA hn hE0 hv h2
  unfold fdI
  refine cps fun Q hQ => ?_
  cases ones
  · replace p0 := p0 0 rfl
    cases neg
    · skip
      go_enter Try.func34, Try.ntmps34
      go_wp2_with (first
        | (go_at_call 25; refine (kr _).mono ?_; rintro e w1 ⟨rfl, rfl⟩)
        | (go_at_call 44; go_must (refine (k4 _).mono ?_); rintro e w5 ⟨rfl, hb5⟩)
        | (go_at_call_of 51 P1; go_must (refine (p2 _).mono ?_); rintro e w1 ⟨rfl, q2, rfl⟩)
        | (go_at_call_of 51 P0; go_must (refine (p1 _).mono ?_); rintro e w1 ⟨rfl, q1, rfl⟩)
        | (go_at_call 51; go_must (refine (p0 _).mono ?_); rintro e w1 ⟨rfl, q0, rfl⟩))
      all_goals exact hQ.out _ _ ⟨rfl, below_drewN (cmore (Below.refl _ _) _) _⟩
    · skip
      go_enter Try.func34, Try.ntmps34
      go_wp2_with (first
        | (go_at_call 25; refine (kr _).mono ?_; rintro e w1 ⟨rfl, rfl⟩)
        | (go_at_call 44; go_must (refine (k4 _).mono ?_); rintro e w5 ⟨rfl, hb5⟩)
        | (go_at_call_of 51 P1; go_must (refine (p2 _).mono ?_); rintro e w1 ⟨rfl, q2, rfl⟩)
        | (go_at_call_of 51 P0; go_must (refine (p1 _).mono ?_); rintro e w1 ⟨rfl, q1, rfl⟩)
        | (go_at_call 51; go_must (refine (p0 _).mono ?_); rintro e w1 ⟨rfl, q0, rfl⟩))
      all_goals exact hQ.out _ _ ⟨rfl, cthen (below_drewN (cmore (Below.refl _ _) _) _) hb5⟩
  · replace p0 := p0 18446744073709551615 rfl
    cases neg
    · skip
      go_enter Try.func34, Try.ntmps34
      go_wp2_with (first
        | (go_at_call 25; refine (kr _).mono ?_; rintro e w1 ⟨rfl, rfl⟩)
        | (go_at_call 44; go_must (refine (k4 _).mono ?_); rintro e w5 ⟨rfl, hb5⟩)
        | (go_at_call_of 51 P1; go_must (refine (p2 _).mono ?_); rintro e w1 ⟨rfl, q2, rfl⟩)
        | (go_at_call_of 51 P0; go_must (refine (p1 _).mono ?_); rintro e w1 ⟨rfl, q1, rfl⟩)
        | (go_at_call 51; go_must (refine (p0 _).mono ?_); rintro e w1 ⟨rfl, q0, rfl⟩))
      all_goals exact hQ.out _ _ ⟨rfl, below_drewN (cmore (Below.refl _ _) _) _⟩
    · skip
      go_enter Try.func34, Try.ntmps34
      go_wp2_with (first
        | (go_at_call 25; refine (kr _).mono ?_; rintro e w1 ⟨rfl, rfl⟩)
        | (go_at_call 44; go_must (refine (k4 _).mono ?_); rintro e w5 ⟨rfl, hb5⟩)
        | (go_at_call_of 51 P1; go_must (refine (p2 _).mono ?_); rintro e w1 ⟨rfl, q2, rfl⟩)
        | (go_at_call_of 51 P0; go_must (refine (p1 _).mono ?_); rintro e w1 ⟨rfl, q1, rfl⟩)
        | (go_at_call 51; go_must (refine (p0 _).mono ?_); rintro e w1 ⟨rfl, q0, rfl⟩))
      all_goals exact hQ.out _ _ ⟨rfl, cthen (below_drewN (cmore (Below.refl _ _) _) _) hb5⟩
theorem assemble_mid (n : Nat) (hn : Wd n) (neg ones : Bool) (run : Nat) (h1 : 1 ≤ run) (h2 : run < n - 1) (reg eb ex fb : Int) (fr : Nat) (hfr : fr < 2 ^ 64) (w : World) :
    Calls Try.prog 34 #[.int .i64 n, fdI neg ones run reg eb ex fb fr] w fun e w' => e = .returned (.int .u64 (asmP n neg ones run ex fr : Nat)) ∧ Below w.heap.size w w' := by
  have hw := wd_le hn
  obtain ⟨beh, hbe⟩ : ∃ beh, beh = n - 1 - run := ⟨_, rfl⟩
  obtain ⟨b1, hb1⟩ : ∃ b1, b1 = beh - 1 := ⟨_, rfl⟩
  obtain ⟨E, hE⟩ : ∃ E, E = min (n - 2 - run) 2 := ⟨_, rfl⟩
  obtain ⟨F, hF⟩ : ∃ F, F = n - 2 - run - E := ⟨_, rfl⟩
  obtain ⟨d, hd⟩ : ∃ d, d = 2 - E := ⟨_, rfl⟩
  have hA := asm_all n ones run (asmV n run ex) fr beh E F hw.2 hbe (by omega) hE hF
  rw [← hb1] at hA
  have hx0 : bits BinOp.xor IntKind.u64 (if IntKind.u64.signed = true then -1 else IntKind.u64.max) 0 = 18446744073709551615 := by decide
  have hx1 : bits BinOp.xor IntKind.u64 (if IntKind.u64.signed = true then -1 else IntKind.u64.max) 18446744073709551615 = 0 := by decide
  have hrb : (n : Int) - 1 - run = (beh : Int) := by omega
  have hrb1 : (beh : Int) - 1 = (b1 : Int) := by omega
  have hbp : decide (0 < (beh : Int)) = true := decide_eq_true (by omega)
  have hdd : (2 : Int) - (E : Int) = (d : Int) := by omega
  have hd2 : d ≤ 2 := by omega
  have hE2 : E ≤ 2 := by omega
  have hF2 : F ≤ 62 := by omega
  have hb62 : b1 ≤ 62 := by omega
  have hbr : beh + run ≤ 64 := by omega
  have hFE : F + E ≤ 64 := by omega
  have kr := croom_any n run hw.2 (by omega)
  rw [← hE, ← hF] at kr
  unfold asmP
  rw [← hA]
  have hv : asmV n run ex = u64Of (ex / 2 ^ d) := by unfold asmV; rw [← hE, ← hd]
  rw [hv]
  have hE3 : Hid (∀ t : Int, IntKind.u64.wrap t = (u64Of t : Int)) := fun t => u64Of_wrap _
  have p0 := fun V hV => put_first (wordB ones) beh run V hbr beh run rfl rfl hV
  have l0 := putOf_lt 0 beh run (wordB ones) (by decide)
  have p1 := fun V hV w => put_nat1 (putOf 0 beh run (wordB ones)) (wordB !ones) b1 1 V l0 (by omega) b1 1 rfl rfl hV w
  have l1 := putOf_lt (putOf 0 beh run (wordB ones)) b1 1 (wordB !ones) l0
  obtain ⟨v1, hv1⟩ : ∃ v1, v1 = u64Of (ex / 2 ^ d) := ⟨_, rfl⟩
  rw [← hv1]
  have p2 := put_nat _ v1 F E l1 hFE F E rfl rfl
  have l2 := putOf_lt _ F E v1 l1
  have p3 := put_nat _ fr 0 F l2 (by omega) 0 F rfl rfl
  have l3 := putOf_lt _ 0 F fr l2
  have hs : IntKind.u64.wrap (ex / 2 ^ d) = (v1 : Int) := by rw [hE3.out, hv1]
  have hs2 : ex / 2 ^ d % 18446744073709551616 = (v1 : Int) := by rw [← hs, IntKind.wrap_u64]
  clear hv1
  generalize putOf 0 beh run (wordB ones) = P0 at *
  generalize putOf P0 b1 1 (wordB !ones) = P1 at *
  generalize putOf P1 F E v1 = P2 at *
  generalize putOf P2 0 F fr = P3 at *
  have k4 := fold_ok n (minusU P3) hn (minusU_lt _)
  have hm := minusU_wrap P3 l3
  generalize minusU P3 = P4 at *
  generalize P4 % 2 ^ n = P5 at *
  have hb64 : run ≤ 64 := by omega
  clear hA hn hv h2 hbe hb1 hE hF hd
  unfold fdI
  refine cps fun Q hQ => ?_
  cases ones
  · replace p0 := p0 0 rfl
    replace p1 := p1 18446744073709551615 rfl
    cases neg
    · skip
      go_enter Try.func34, Try.ntmps34
      go_wp2_with (first
        | (go_at_call 25; refine (kr _).mono ?_; rintro e w1 ⟨rfl, rfl⟩)
        | (go_at_call 44; go_must (refine (k4 _).mono ?_); rintro e w5 ⟨rfl, hb5⟩)
        | (go_at_call_of 51 P2; go_must (refine (p3 _).mono ?_); rintro e w1 ⟨rfl, q3, rfl⟩)
        | (go_at_call_of 51 P1; go_must (refine (p2 _).mono ?_); rintro e w1 ⟨rfl, q2, rfl⟩)
        | (go_at_call_of 51 P0; go_must (refine (p1 _).mono ?_); rintro e w1 ⟨rfl, q1, rfl⟩)
        | (go_at_call 51; go_must (refine (p0 _).mono ?_); rintro e w1 ⟨rfl, q0, rfl⟩))
      all_goals exact hQ.out _ _ ⟨rfl, below_drewN (cmore (Below.refl _ _) _) _⟩
    · skip
      go_enter Try.func34, Try.ntmps34
      go_wp2_with (first
        | (go_at_call 25; refine (kr _).mono ?_; rintro e w1 ⟨rfl, rfl⟩)
        | (go_at_call 44; go_must (refine (k4 _).mono ?_); rintro e w5 ⟨rfl, hb5⟩)
        | (go_at_call_of 51 P2; go_must (refine (p3 _).mono ?_); rintro e w1 ⟨rfl, q3, rfl⟩)
        | (go_at_call_of 51 P1; go_must (refine (p2 _).mono ?_); rintro e w1 ⟨rfl, q2, rfl⟩)
        | (go_at_call_of 51 P0; go_must (refine (p1 _).mono ?_); rintro e w1 ⟨rfl, q1, rfl⟩)
        | (go_at_call 51; go_must (refine (p0 _).mono ?_); rintro e w1 ⟨rfl, q0, rfl⟩))
      all_goals exact hQ.out _ _ ⟨rfl, cthen (below_drewN (cmore (Below.refl _ _) _) _) hb5⟩
  · replace p0 := p0 18446744073709551615 rfl
    replace p1 := p1 0 rfl
    cases neg
    · skip
      go_enter Try.func34, Try.ntmps34
      go_wp2_with (first
        | (go_at_call 25; refine (kr _).mono ?_; rintro e w1 ⟨rfl, rfl⟩)
        | (go_at_call 44; go_must (refine (k4 _).mono ?_); rintro e w5 ⟨rfl, hb5⟩)
        | (go_at_call_of 51 P2; go_must (refine (p3 _).mono ?_); rintro e w1 ⟨rfl, q3, rfl⟩)
        | (go_at_call_of 51 P1; go_must (refine (p2 _).mono ?_); rintro e w1 ⟨rfl, q2, rfl⟩)
        | (go_at_call_of 51 P0; go_must (refine (p1 _).mono ?_); rintro e w1 ⟨rfl, q1, rfl⟩)
        | (go_at_call 51; go_must (refine (p0 _).mono ?_); rintro e w1 ⟨rfl, q0, rfl⟩))
      all_goals exact hQ.out _ _ ⟨rfl, below_drewN (cmore (Below.refl _ _) _) _⟩
    · skip
      go_enter Try.func34, Try.ntmps34
      go_wp2_with (first
        | (go_at_call 25; refine (kr _).mono ?_; rintro e w1 ⟨rfl, rfl⟩)
        | (go_at_call 44; go_must (refine (k4 _).mono ?_); rintro e w5 ⟨rfl, hb5⟩)
        | (go_at_call_of 51 P2; go_must (refine (p3 _).mono ?_); rintro e w1 ⟨rfl, q3, rfl⟩)
        | (go_at_call_of 51 P1; go_must (refine (p2 _).mono ?_); rintro e w1 ⟨rfl, q2, rfl⟩)
        | (go_at_call_of 51 P0; go_must (refine (p1 _).mono ?_); rintro e w1 ⟨rfl, q1, rfl⟩)
        | (go_at_call 51; go_must (refine (p0 _).mono ?_); rintro e w1 ⟨rfl, q0, rfl⟩))
      all_goals exact hQ.out _ _ ⟨rfl, cthen (below_drewN (cmore (Below.refl _ _) _) _) hb5⟩
theorem assemble_any (n : Nat) (hn : Wd n) (neg ones : Bool) (run : Nat) (h1 : 1 ≤ run) (h2 : run ≤ n - 1) (reg eb ex fb : Int) (fr : Nat) (hfr : fr < 2 ^ 64) (w : World) :
    Calls Try.prog 34 #[.int .i64 n, fdI neg ones run reg eb ex fb fr] w fun e w' => e = .returned (.int .u64 (asmP n neg ones run ex fr : Nat)) ∧ Below w.heap.size w w' := by
  rcases Nat.lt_or_ge run (n - 1) with h | h
  · exact assemble_mid n hn neg ones run h1 h reg eb ex fb fr hfr w
  · exact assemble_end n hn neg ones run h1 (by omega) reg eb ex fb fr hfr w
end Go.Proofs.Ythbhcdokjlpjbaa
