import Derived.Test.YtajlgpamcpgalaaJoin3
import Derived.Test.YtajlgpamcpgalaaJoin1
import Derived.Lib.SmallJoins
import Derived.Test.YtajlgpamcpgalaaJoin2
namespace Go.Proofs.Ytajlgpamcpgalaa
open Go.ChangeShapes Go.WideShapes Go.ChangeAt Go.RowKit
set_option linter.unusedVariables false
set_option linter.unusedSimpArgs false
set_option maxRecDepth 100000

/-! ### Of -/
theorem rndof_bad (k : Int) (neg : Bool) (s : Int) (f : Nat) (hf : f < 2 ^ 64) (hs : soundN k neg s f = false) (w : World) :
    Calls Try.prog 13 #[numV k neg s f] w fun e w' => e = .returned (.tuple #[exV 0 false 0 0 0 false, codeV 1]) ∧ Below w.heap.size w w' := by
  have k2 := rsound_any k neg s f 0 false 1073741824 hf (by decide)
  rw [soundF_N, hs] at k2
  unfold numV exV at *
  rw [show ((0 : Nat) : Int) = 0 from rfl] at *
  clear hs
  refine cps fun Q hQ => ?_
  go_enter Try.func13, Try.ntmps13
  go_wp2_with (go_at_call 31; refine (k2 _).mono ?_; rintro e w2 ⟨rfl, hb2⟩; have RR := (hb2.block (w.heap.size + 1) (by simp)).trans ((Below.heap_alloc ((w.alloc _).alloc _) _ _ (by simp)).trans (rownew' _ _ _ _ (by simp))); have r0 := rowcell RR 0; have r1 := rowcell RR 1; have r2 := rowcell RR 2; have r3 := rowcell RR 3; have r4 := rowcell RR 4; have r5 := rowcell RR 5; have rf := rowfree RR; simp only [List.getElem?_toArray, List.getElem?_cons_zero, List.getElem?_cons_succ] at r0 r1 r2 r3 r4 r5; have HB2 : Hid (Below _ _ _) := cthen (cmore (cmore (cmore (Below.refl _ _) _) _) _) hb2; clear hb2 RR)
  refine bodyPost_ret (v := .tuple #[.agg #[.int .i64 0, .bool false, .int .i64 0, .int .u64 0, .int .u64 0, .bool false], codeV 1]) (by simp [results, Try.results13, go_sem, r0, r1, r2, r3, r4, r5]) rfl (hQ.out _ _ ⟨rfl, ?_⟩)
  have hle : w.heap.size ≤ w.heap.size + 1 := by omega
  exact cset (cset (cset (cset (cset (cset HB2.out hle _ _) hle _ _) hle _ _) hle _ _) hle _ _) hle _ _
theorem rndof_ok (k : Int) (neg : Bool) (s : Int) (f : Nat) (hf : f < 2 ^ 64) (hs : soundN k neg s f = true) (w : World) :
    Calls Try.prog 13 #[numV k neg s f] w fun e w' => e = .returned (.tuple #[exV k neg s f 0 false, .nilIface]) ∧ Below w.heap.size w w' := by
  have k2 := rsound_any k neg s f 0 false 1073741824 hf (by decide)
  rw [soundF_N, hs] at k2
  unfold numV exV at *
  rw [show ((0 : Nat) : Int) = 0 from rfl] at *
  clear hs
  refine cps fun Q hQ => ?_
  go_enter Try.func13, Try.ntmps13
  go_wp2_with (go_at_call 31; refine (k2 _).mono ?_; rintro e w2 ⟨rfl, hb2⟩; have RR := (hb2.block (w.heap.size + 1) (by simp)).trans ((Below.heap_alloc ((w.alloc _).alloc _) _ _ (by simp)).trans (rownew' _ _ _ _ (by simp))); have r0 := rowcell RR 0; have r1 := rowcell RR 1; have r2 := rowcell RR 2; have r3 := rowcell RR 3; have r4 := rowcell RR 4; have r5 := rowcell RR 5; have rf := rowfree RR; simp only [List.getElem?_toArray, List.getElem?_cons_zero, List.getElem?_cons_succ] at r0 r1 r2 r3 r4 r5; have RY := (hb2.block (w.heap.size + 2) (by simp)).trans (rownew' _ _ _ _ (by simp)); have y0 := rowcell RY 0; have y1 := rowcell RY 1; have y2 := rowcell RY 2; have y3 := rowcell RY 3; have y4 := rowcell RY 4; have y5 := rowcell RY 5; simp only [List.getElem?_toArray, List.getElem?_cons_zero, List.getElem?_cons_succ] at y0 y1 y2 y3 y4 y5; have HB2 : Hid (Below _ _ _) := cthen (cmore (cmore (cmore (Below.refl _ _) _) _) _) hb2; clear hb2 RR RY)
  refine bodyPost_ret (v := .tuple #[.agg #[.int .i64 k, .bool neg, .int .i64 s, .int .u64 f, .int .u64 0, .bool false], .nilIface]) (by simp [results, Try.results13, go_sem, r0, r1, r2, r3, r4, r5]) rfl (hQ.out _ _ ⟨rfl, ?_⟩)
  have hle : w.heap.size ≤ w.heap.size + 1 := by omega
  exact cset (cset (cset (cset (cset (cset HB2.out hle _ _) hle _ _) hle _ _) hle _ _) hle _ _) hle _ _
/-! ### Round -/
theorem rround_err (n : Int) (k : Int) (neg : Bool) (s : Int) (hi lo : Nat) (rest : Bool) (c : Int) (w : World)
    (k1 : ∀ w, Calls Try.prog 15 #[.int .i64 n, exV k neg s hi lo rest] w fun e w' => e = .returned (.tuple #[.int .u64 0, .int .i64 0, codeV c]) ∧ Below w.heap.size w w') :
    Calls Try.prog 17 #[.int .i64 n, exV k neg s hi lo rest] w fun e w' => e = .returned (.tuple #[.int .u64 0, codeV c]) ∧ Below w.heap.size w w' := by
  unfold exV at *
  refine cps fun Q hQ => ?_
  go_enter Try.func17, Try.ntmps17
  go_wp2_with (go_at_call 15; refine (k1 _).mono ?_; rintro e w2 ⟨rfl, hb2⟩)
  exact hQ.out _ _ ⟨rfl, cthen (cmore (Below.refl _ _) _) hb2⟩
theorem rround_no (n : Int) (k : Int) (neg : Bool) (s : Int) (hi lo : Nat) (rest : Bool) (hh : hi < 2 ^ 64) (hl : lo < 2 ^ 64) (hn : isW n = false) (w : World) :
    Calls Try.prog 17 #[.int .i64 n, exV k neg s hi lo rest] w fun e w' => e = .returned (.tuple #[.int .u64 0, codeV 2]) ∧ Below w.heap.size w w' :=
  rround_err n k neg s hi lo rest 2 w (rcut_no n k neg s hi lo rest hh hl hn)
theorem rround_bad (n : Nat) (k : Int) (neg : Bool) (s : Int) (hi lo : Nat) (rest : Bool) (hn : Wd n) (hh : hi < 2 ^ 64) (hl : lo < 2 ^ 64) (hs : soundX k neg s hi lo rest = false) (w : World) :
    Calls Try.prog 17 #[.int .i64 n, exV k neg s hi lo rest] w fun e w' => e = .returned (.tuple #[.int .u64 0, codeV 1]) ∧ Below w.heap.size w w' :=
  rround_err n k neg s hi lo rest 1 w (rcut_bad n k neg s hi lo rest hn hh hl hs)
theorem rround_plain (n : Int) (k : Int) (P : Nat) (w : World)
    (k1 : ∀ w, Calls Try.prog 15 #[.int .i64 n, exV k false 0 0 0 false] w fun e w' => e = .returned (.tuple #[.int .u64 P, .int .i64 0, .nilIface]) ∧ Below w.heap.size w w') :
    Calls Try.prog 17 #[.int .i64 n, exV k false 0 0 0 false] w fun e w' => e = .returned (.tuple #[.int .u64 P, .nilIface]) ∧ Below w.heap.size w w' := by
  unfold exV at *
  refine cps fun Q hQ => ?_
  go_enter Try.func17, Try.ntmps17
  go_wp2_with (go_at_call 15; refine (k1 _).mono ?_; rintro e w2 ⟨rfl, hb2⟩; have hc := fun b o h => hb2.cell (p := ⟨b, o, none⟩) h; have z1 : w.heap.size < w2.heap.size := (by have := hb2.size; simp at this; omega))
  exact hQ.out _ _ ⟨rfl, cthen (cmore (Below.refl _ _) _) hb2⟩
theorem rround_zero (n : Nat) (hn : Wd n) (w : World) :
    Calls Try.prog 17 #[.int .i64 n, exV 0 false 0 0 0 false] w fun e w' => e = .returned (.tuple #[.int .u64 0, .nilIface]) ∧ Below w.heap.size w w' :=
  rround_plain n 0 0 w (rcut_zero n hn)
theorem rround_nar (n : Nat) (hn : Wd n) (w : World) :
    Calls Try.prog 17 #[.int .i64 n, exV 2 false 0 0 0 false] w fun e w' => e = .returned (.tuple #[.int .u64 (2 ^ (n - 1) : Nat), .nilIface]) ∧ Below w.heap.size w w' :=
  rround_plain n 2 (2 ^ (n - 1)) w (rcut_nar n hn)
set_option maxHeartbeats 2000000 in
theorem rround_real (n : Nat) (neg : Bool) (s : Int) (hi lo : Nat) (rest : Bool) (hn : Wd n) (hs : soundX 1 neg s hi lo rest = true) (h : WordsX hi lo) (w : World) :
    Calls Try.prog 17 #[.int .i64 n, exV 1 neg s hi lo rest] w fun e w' => e = .returned (.tuple #[.int .u64 (patR n neg (rndX n s hi lo rest)), .nilIface]) ∧ Below w.heap.size w w' := by
  have k1 := rcut_real n neg s hi lo rest hn hs h
  obtain ⟨r1, r2⟩ := rnd_range n s hi lo rest hn h
  obtain ⟨H, e1, e2, e3, _⟩ := wd_pows hn
  have hw := wd_le hn
  have hH : H ≤ 2 ^ 63 := by rw [← e2]; exact Nat.pow_le_pow_right (by decide) (by omega)
  have k2 := fold_ok n (minusU (rndX n s hi lo rest)) hn (minusU_lt _)
  have hneg : minusU (rndX n s hi lo rest) % 2 ^ n = 2 ^ n - rndX n s hi lo rest := by
    rw [minusU_mod n _ hn (by omega), Nat.mod_eq_of_lt (a := rndX n s hi lo rest) (by omega), Nat.mod_eq_of_lt (by omega)]
  rw [hneg] at k2
  have hmw := minusU_wrap (rndX n s hi lo rest) (by omega)
  have HR : Hid (rndX n s hi lo rest = roundP (cutX n s hi lo rest).1 (cutX n s hi lo rest).2) := rfl
  have hle := (roundP_le (cutX n s hi lo rest).1 (cutX n s hi lo rest).2).1
  have hle2 : (cutX n s hi lo rest).1 ≤ rndX n s hi lo rest := hle
  unfold patR
  generalize 2 ^ n - rndX n s hi lo rest = M at *
  generalize minusU (rndX n s hi lo rest) = U at *
  generalize (cutX n s hi lo rest).1 = P at *
  generalize (cutX n s hi lo rest).2 = l at *
  generalize rndX n s hi lo rest = R at *
  unfold exV at *
  rw [e2] at r2
  have hR63 : R < 2 ^ 63 := by omega
  clear hn hs h hneg e1 e2 e3 hle r2 hH
  have hup : (l = 3 ∨ (l = 2 ∧ P % 2 = 1)) → P + 1 = R := fun c => by rw [HR.out]; unfold roundP; rw [if_pos c]
  have hst : ¬ (l = 3 ∨ (l = 2 ∧ P % 2 = 1)) → P = R := fun c => by rw [HR.out]; unfold roundP; rw [if_neg c]
  have ew : IntKind.u64.wrap ((P : Int) + 1) = (P : Int) + 1 := by rw [IntKind.wrap_u64]; omega
  refine cps fun Q hQ => ?_
  by_cases c : l = 3 ∨ (l = 2 ∧ P % 2 = 1)
  · have hP := hup c
    have hc2 : ((P : Int) + 1) = (R : Int) := by omega
    have ew2 : IntKind.u64.wrap ((P : Int) + 1) = (R : Int) := by rw [ew, hc2]
    clear hup hst hP hc2 ew
    rcases c with rfl | ⟨rfl, c⟩
    · cases neg
      · go_enter Try.func17, Try.ntmps17
        go_wp2_with (first
          | (go_at_call 15; refine (k1 _).mono ?_; rintro e w2 ⟨rfl, hb2⟩; have a1 := ((hb2.cell (p := ⟨w.heap.size, 1, none⟩) (by simp)).trans (rowcell (rownew w _ _) 1)); simp only [List.getElem?_toArray, List.getElem?_cons_zero, List.getElem?_cons_succ] at a1; have z1 : w.heap.size < w2.heap.size := (by have := hb2.size; simp at this; omega)))
        exact hQ.out _ _ ⟨rfl, cthen (cmore (Below.refl _ _) _) hb2⟩
      · go_enter Try.func17, Try.ntmps17
        go_wp2_with (first
          | (go_at_call 15; refine (k1 _).mono ?_; rintro e w2 ⟨rfl, hb2⟩; have a1 := ((hb2.cell (p := ⟨w.heap.size, 1, none⟩) (by simp)).trans (rowcell (rownew w _ _) 1)); simp only [List.getElem?_toArray, List.getElem?_cons_zero, List.getElem?_cons_succ] at a1; have z1 : w.heap.size < w2.heap.size := (by have := hb2.size; simp at this; omega))
          | (go_at_call 41; refine (k2 _).mono ?_; rintro e w4 ⟨rfl, hb4⟩))
        exact hQ.out _ _ ⟨rfl, cthen (cthen (cmore (Below.refl _ _) _) hb2) hb4⟩
    · have m2 : (Int.tmod (P : Int) 2) = (P : Int) % 2 := Int.tmod_eq_emod_of_nonneg (by omega)
      have m3 : (P : Int) % 2 = 1 := by omega
      clear c
      cases neg
      · go_enter Try.func17, Try.ntmps17
        go_wp2_with (first
          | (go_at_call 15; refine (k1 _).mono ?_; rintro e w2 ⟨rfl, hb2⟩; have a1 := ((hb2.cell (p := ⟨w.heap.size, 1, none⟩) (by simp)).trans (rowcell (rownew w _ _) 1)); simp only [List.getElem?_toArray, List.getElem?_cons_zero, List.getElem?_cons_succ] at a1; have z1 : w.heap.size < w2.heap.size := (by have := hb2.size; simp at this; omega)))
        exact hQ.out _ _ ⟨rfl, cthen (cmore (Below.refl _ _) _) hb2⟩
      · go_enter Try.func17, Try.ntmps17
        go_wp2_with (first
          | (go_at_call 15; refine (k1 _).mono ?_; rintro e w2 ⟨rfl, hb2⟩; have a1 := ((hb2.cell (p := ⟨w.heap.size, 1, none⟩) (by simp)).trans (rowcell (rownew w _ _) 1)); simp only [List.getElem?_toArray, List.getElem?_cons_zero, List.getElem?_cons_succ] at a1; have z1 : w.heap.size < w2.heap.size := (by have := hb2.size; simp at this; omega))
          | (go_at_call 41; refine (k2 _).mono ?_; rintro e w4 ⟨rfl, hb4⟩))
        exact hQ.out _ _ ⟨rfl, cthen (cthen (cmore (Below.refl _ _) _) hb2) hb4⟩
  · have hP := hst c
    subst hP
    clear hup hst
    have d3 : ((l : Int) == 3) = false := beq_eq_false_iff_ne.2 (by omega)
    by_cases h2 : l = 2
    · subst h2
      have m3 : (P : Int) % 2 = 0 := by omega
      have m2 : (Int.tmod (P : Int) 2) = (P : Int) % 2 := Int.tmod_eq_emod_of_nonneg (by omega)
      clear c
      cases neg
      · go_enter Try.func17, Try.ntmps17
        go_wp2_with (first
          | (go_at_call 15; refine (k1 _).mono ?_; rintro e w2 ⟨rfl, hb2⟩; have a1 := ((hb2.cell (p := ⟨w.heap.size, 1, none⟩) (by simp)).trans (rowcell (rownew w _ _) 1)); simp only [List.getElem?_toArray, List.getElem?_cons_zero, List.getElem?_cons_succ] at a1; have z1 : w.heap.size < w2.heap.size := (by have := hb2.size; simp at this; omega)))
        exact hQ.out _ _ ⟨rfl, cthen (cmore (Below.refl _ _) _) hb2⟩
      · go_enter Try.func17, Try.ntmps17
        go_wp2_with (first
          | (go_at_call 15; refine (k1 _).mono ?_; rintro e w2 ⟨rfl, hb2⟩; have a1 := ((hb2.cell (p := ⟨w.heap.size, 1, none⟩) (by simp)).trans (rowcell (rownew w _ _) 1)); simp only [List.getElem?_toArray, List.getElem?_cons_zero, List.getElem?_cons_succ] at a1; have z1 : w.heap.size < w2.heap.size := (by have := hb2.size; simp at this; omega))
          | (go_at_call 41; refine (k2 _).mono ?_; rintro e w4 ⟨rfl, hb4⟩))
        exact hQ.out _ _ ⟨rfl, cthen (cthen (cmore (Below.refl _ _) _) hb2) hb4⟩
    · have d2 : ((l : Int) == 2) = false := beq_eq_false_iff_ne.2 (by omega)
      clear c h2
      cases neg
      · go_enter Try.func17, Try.ntmps17
        go_wp2_with (first
          | (go_at_call 15; refine (k1 _).mono ?_; rintro e w2 ⟨rfl, hb2⟩; have a1 := ((hb2.cell (p := ⟨w.heap.size, 1, none⟩) (by simp)).trans (rowcell (rownew w _ _) 1)); simp only [List.getElem?_toArray, List.getElem?_cons_zero, List.getElem?_cons_succ] at a1; have z1 : w.heap.size < w2.heap.size := (by have := hb2.size; simp at this; omega)))
        exact hQ.out _ _ ⟨rfl, cthen (cmore (Below.refl _ _) _) hb2⟩
      · go_enter Try.func17, Try.ntmps17
        go_wp2_with (first
          | (go_at_call 15; refine (k1 _).mono ?_; rintro e w2 ⟨rfl, hb2⟩; have a1 := ((hb2.cell (p := ⟨w.heap.size, 1, none⟩) (by simp)).trans (rowcell (rownew w _ _) 1)); simp only [List.getElem?_toArray, List.getElem?_cons_zero, List.getElem?_cons_succ] at a1; have z1 : w.heap.size < w2.heap.size := (by have := hb2.size; simp at this; omega))
          | (go_at_call 41; refine (k2 _).mono ?_; rintro e w4 ⟨rfl, hb4⟩))
        exact hQ.out _ _ ⟨rfl, cthen (cthen (cmore (Below.refl _ _) _) hb2) hb4⟩
end Go.Proofs.Ytajlgpamcpgalaa

namespace Go.Proofs.Ytajlgpamcpgalaa
open Go.ChangeShapes Go.WideShapes Go.ChangeAt Go.RowKit
set_option linter.unusedVariables false
set_option linter.unusedSimpArgs false
set_option maxRecDepth 100000

/-! ### Make -/
theorem rmake_bad (neg : Bool) (hi lo : Nat) (exp : Int) (h : hi < 9223372036854775808) (hl : lo < 2 ^ 64) (w : World) :
    Calls Try.prog 10 #[.bool neg, .int .u64 hi, .int .u64 lo, .int .i64 exp, .bool true] w fun e w' => e = .returned (.tuple #[exV 0 false 0 0 0 false, codeV 1]) ∧ Below w.heap.size w w' := by
  have g : ((hi : Int) / 9223372036854775808 == 0) = true := beq_iff_eq.2 (by omega)
  clear h
  unfold exV
  refine cps fun Q hQ => ?_
  go_enter Try.func10, Try.ntmps10
  go_wp2
  refine bodyPost_ret (v := .tuple #[.agg #[.int .i64 0, .bool false, .int .i64 0, .int .u64 0, .int .u64 0, .bool false], codeV 1]) (by simp [results, Try.results10, go_sem]) rfl (hQ.out _ _ ⟨rfl, ?_⟩)
  exact cmore (Below.refl _ _) _
theorem rmake_zero (neg : Bool) (exp : Int) (w : World) :
    Calls Try.prog 10 #[.bool neg, .int .u64 0, .int .u64 0, .int .i64 exp, .bool false] w fun e w' => e = .returned (.tuple #[exV 0 false 0 0 0 false, .nilIface]) ∧ Below w.heap.size w w' := by
  have k1 := tnorm_zero
  unfold exV
  refine cps fun Q hQ => ?_
  go_enter Try.func10, Try.ntmps10
  go_wp2_with (go_at_call 25; refine (k1 _).mono ?_; rintro e w2 ⟨rfl, hb2⟩; have RR := (hb2.block w.heap.size (by simp)).trans (rownew' _ _ _ _ rfl); have z2 : w.heap.size < w2.heap.size := (by have := hb2.size; simp at this; omega); have r0 := rowcell RR 0; have r1 := rowcell RR 1; have r2 := rowcell RR 2; have r3 := rowcell RR 3; have r4 := rowcell RR 4; have r5 := rowcell RR 5; have rf := rowfree RR; simp only [List.getElem?_toArray, List.getElem?_cons_zero, List.getElem?_cons_succ] at r0 r1 r2 r3 r4 r5; have HB2 : Hid (Below _ _ _) := cthen (cmore (Below.refl _ _) _) hb2; clear hb2 RR)
  refine bodyPost_ret (v := .tuple #[.agg #[.int .i64 0, .bool false, .int .i64 0, .int .u64 0, .int .u64 0, .bool false], .nilIface]) (by simp [results, Try.results10, go_sem, r0, r1, r2, r3, r4, r5, z2]) rfl (hQ.out _ _ ⟨rfl, ?_⟩)
  exact cmore (cset6 HB2.out (Nat.le_refl _)) _
theorem norm_shift {M k : Nat} (hM : blen M ≤ 128) (hk : k + blen M = 128) : normN M = M * 2 ^ k ∧ lostN M = false := by
  constructor
  · unfold normN
    by_cases h : blen M < 128
    · rw [if_pos h, show 128 - blen M = k by omega]
    · rw [if_neg h, show blen M - 128 = 0 by omega, show k = 0 by omega, Nat.pow_zero, Nat.div_one, Nat.mul_one]
  · unfold lostN
    rw [decide_eq_false (show ¬ 128 < blen M by omega), Bool.false_and]
set_option maxHeartbeats 1000000 in
theorem rmake_walk (neg : Bool) (hi lo : Nat) (exp : Int) (rest : Bool) (nh nl k : Nat) (m x hv : Int) (hne : ¬ (nh : Int) = 0) (g : rest = false ∨ ((hi : Int) / 9223372036854775808 == 0) = false)
    (k1 : ∀ w, Calls Try.prog 25 #[.agg #[.int .u64 hi, .int .u64 lo]] w fun e w' => e = .returned (.tuple #[.agg #[.int .u64 nh, .int .u64 nl], .int .i64 k]) ∧ Below w.heap.size w w')
    (hm : (if 1099511627776 < exp then 1099511627776 else exp) = m) (q1 : IntKind.i64.wrap (m + 127) = m + 127) (q2 : IntKind.i64.wrap (m + 127 - (k : Int)) = m + 127 - (k : Int))
    (hx : (if m + 127 - (k : Int) < -1099511627776 then -1099511627776 else m + 127 - (k : Int)) = x) (hy : (if 1099511627776 < x then 1099511627776 else x) = hv) (w : World) :
    Calls Try.prog 10 #[.bool neg, .int .u64 hi, .int .u64 lo, .int .i64 exp, .bool rest] w fun e w' => e = .returned (.tuple #[exV 1 neg hv nh nl rest, .nilIface]) ∧ Below w.heap.size w w' := by
  unfold exV
  refine cps fun Q hQ => ?_
  cases rest
  · clear g
    go_enter Try.func10, Try.ntmps10
    go_wp2_with (go_at_call 25; refine (k1 _).mono ?_; rintro e w2 ⟨rfl, hb2⟩; have RR := (hb2.block w.heap.size (by simp)).trans (rownew' _ _ _ _ rfl); have z2 : w.heap.size < w2.heap.size := (by have := hb2.size; simp at this; omega); have r0 := rowcell RR 0; have r1 := rowcell RR 1; have r2 := rowcell RR 2; have r3 := rowcell RR 3; have r4 := rowcell RR 4; have r5 := rowcell RR 5; have rf := rowfree RR; simp only [List.getElem?_toArray, List.getElem?_cons_zero, List.getElem?_cons_succ] at r0 r1 r2 r3 r4 r5; have HB2 : Hid (Below _ _ _) := cthen (cmore (Below.refl _ _) _) hb2; clear hb2 RR)
    all_goals
      refine bodyPost_ret (v := .tuple #[.agg #[.int .i64 1, .bool neg, .int .i64 hv, .int .u64 nh, .int .u64 nl, .bool false], .nilIface]) (by simp [results, Try.results10, go_sem, r0, r1, r2, r3, r4, r5, z2]) rfl (hQ.out _ _ ⟨rfl, ?_⟩)
      exact cmore (cset6 HB2.out (Nat.le_refl _)) _
  · have g : ((hi : Int) / 9223372036854775808 == 0) = false := by rcases g with g | g; cases g; exact g
    go_enter Try.func10, Try.ntmps10
    go_wp2_with (go_at_call 25; refine (k1 _).mono ?_; rintro e w2 ⟨rfl, hb2⟩; have RR := (hb2.block w.heap.size (by simp)).trans (rownew' _ _ _ _ rfl); have z2 : w.heap.size < w2.heap.size := (by have := hb2.size; simp at this; omega); have r0 := rowcell RR 0; have r1 := rowcell RR 1; have r2 := rowcell RR 2; have r3 := rowcell RR 3; have r4 := rowcell RR 4; have r5 := rowcell RR 5; have rf := rowfree RR; simp only [List.getElem?_toArray, List.getElem?_cons_zero, List.getElem?_cons_succ] at r0 r1 r2 r3 r4 r5; have HB2 : Hid (Below _ _ _) := cthen (cmore (Below.refl _ _) _) hb2; clear hb2 RR)
    all_goals
      refine bodyPost_ret (v := .tuple #[.agg #[.int .i64 1, .bool neg, .int .i64 hv, .int .u64 nh, .int .u64 nl, .bool true], .nilIface]) (by simp [results, Try.results10, go_sem, r0, r1, r2, r3, r4, r5, z2]) rfl (hQ.out _ _ ⟨rfl, ?_⟩)
      exact cmore (cset6 HB2.out (Nat.le_refl _)) _
theorem norm_tw {M : Nat} (h : M < 340282366920938463463374607431768211456) : Tw M (M / 2 ^ 64 % 2 ^ 64) (M % 2 ^ 64) := ⟨by omega, by omega, by omega⟩
theorem rmake_real (neg : Bool) (hi lo : Nat) (exp : Int) (rest : Bool) (hh : hi < 2 ^ 64) (hl : lo < 2 ^ 64) (he : -9223372036854775808 ≤ exp ∧ exp ≤ 9223372036854775807) (h : rest = false ∨ 9223372036854775808 ≤ hi) (h0 : manX hi lo ≠ 0) (w : World) :
    Calls Try.prog 10 #[.bool neg, .int .u64 hi, .int .u64 lo, .int .i64 exp, .bool rest] w fun e w' => e = .returned (.tuple #[exactV neg (manX hi lo) exp rest, .nilIface]) ∧ Below w.heap.size w w' := by
  have hM := manX_lt hh hl
  have hbl : blen (manX hi lo) ≤ 128 := blen_le.2 hM
  have hb1 : 1 ≤ blen (manX hi lo) := by rw [blen_pos h0]; omega
  obtain ⟨k, hk⟩ : ∃ k, k + blen (manX hi lo) = 128 := ⟨128 - blen (manX hi lo), by omega⟩
  obtain ⟨n1, n2⟩ := norm_shift hbl hk
  have hmt := (normN_mant h0).2
  have htop := (normN_words h0).top
  have hTM : Tw (manX hi lo) hi lo := ⟨rfl, by omega, by omega⟩
  have hN : normN (manX hi lo) < 340282366920938463463374607431768211456 := hmt
  have hTN := norm_tw hN
  have hTk : Tw ((manX hi lo * 2 ^ k) % 340282366920938463463374607431768211456) (normN (manX hi lo) / 2 ^ 64 % 2 ^ 64) (normN (manX hi lo) % 2 ^ 64) := by
    rw [← n1, Nat.mod_eq_of_lt hN]; exact hTN
  have k1 := fun w => tnorm_any hTM h0 hk hTk w
  have hv : exactV neg (manX hi lo) exp rest = exV 1 neg (heldX (exp + blen (manX hi lo) - 1)) (normN (manX hi lo) / 2 ^ 64 % 2 ^ 64) (normN (manX hi lo) % 2 ^ 64) rest := by
    unfold exactV; rw [if_neg h0, n2, Bool.or_false]
  rw [hv]
  have hkr : k ≤ 127 := by omega
  have hsc : exp + blen (manX hi lo) - 1 = exp + 127 - k := by omega
  rw [hsc]
  have hm : ∃ m, (if 1099511627776 < exp then 1099511627776 else exp) = m := ⟨_, rfl⟩
  obtain ⟨m, hm⟩ := hm
  have hmr : -9223372036854775808 ≤ m ∧ m ≤ 1099511627776 := by rw [← hm]; clear hTM hTN hTk k1 hmt hN htop; split <;> omega
  obtain ⟨x, hx⟩ : ∃ x, (if m + 127 - (k : Int) < -1099511627776 then -1099511627776 else m + 127 - (k : Int)) = x := ⟨_, rfl⟩
  have hy : (if 1099511627776 < x then 1099511627776 else x) = heldX (exp + 127 - k) := by
    clear hTM hTN hTk k1 hmt hN htop
    rw [← hx, ← hm]; unfold heldX
    by_cases c : 1099511627776 < exp
    · rw [if_pos c]
      repeat' split
      all_goals omega
    · rw [if_neg c]
      repeat' split
      all_goals omega
  have q1 : IntKind.i64.wrap (m + 127) = m + 127 := wrapI (by omega)
  have q2 : IntKind.i64.wrap (m + 127 - (k : Int)) = m + 127 - (k : Int) := wrapI (by omega)
  refine rmake_walk neg hi lo exp rest _ _ k m x _ ?_ ?_ k1 hm q1 q2 hx hy w
  · intro c; have c2 := Int.ofNat_eq_zero.1 c; rw [c2] at htop; exact absurd htop (by decide)
  · rcases h with h | h
    · exact .inl h
    · exact .inr (beq_eq_false_iff_ne.2 (by omega))
theorem rmake_ok (neg : Bool) (hi lo : Nat) (exp : Int) (rest : Bool) (hh : hi < 2 ^ 64) (hl : lo < 2 ^ 64) (he : -9223372036854775808 ≤ exp ∧ exp ≤ 9223372036854775807) (h : rest = false ∨ 9223372036854775808 ≤ hi) (w : World) :
    Calls Try.prog 10 #[.bool neg, .int .u64 hi, .int .u64 lo, .int .i64 exp, .bool rest] w fun e w' => e = .returned (.tuple #[exactV neg (manX hi lo) exp rest, .nilIface]) ∧ Below w.heap.size w w' := by
  by_cases h0 : manX hi lo = 0
  · have hz : hi = 0 ∧ lo = 0 := by unfold manX at h0; omega
    obtain ⟨rfl, rfl⟩ := hz
    have hr : rest = false := by rcases h with h | h; exact h; omega
    subst hr
    have hv : exactV neg (manX 0 0) exp false = exV 0 false 0 0 0 false := by unfold exactV; rw [if_pos h0]
    rw [hv]
    exact rmake_zero neg exp w
  · exact rmake_real neg hi lo exp rest hh hl he h h0 w
end Go.Proofs.Ytajlgpamcpgalaa

namespace Go.Proofs.Ytajlgpamcpgalaa
/-! ### the contracts of package round stand in RkD (Cut), RkE (Of, Round), RkF (Make) -/
end Go.Proofs.Ytajlgpamcpgalaa

namespace Go.Proofs.Ytajlgpamcpgalaa
open Go.ChangeShapes Go.WideShapes Go.ChangeAt Go.RowKit
set_option linter.unusedVariables false
set_option linter.unusedSimpArgs false
set_option maxRecDepth 100000

/-- the head of all laws of this layer -/
theorem rup_any (w : World) : Calls Try.prog 9 #[] w fun e w' => e = .returned (.bool true) ∧ Below w.heap.size w w' := by
  have k1 := fun w => rround_real 8 false 22 9223372036854775808 0 false (.inl rfl) (by decide) ⟨by decide, by decide, by decide⟩ w
  have k2 := fun w => rround_real 8 false 23 9223372036854775808 0 false (.inl rfl) (by decide) ⟨by decide, by decide, by decide⟩ w
  rw [show patR 8 false (rndX 8 22 9223372036854775808 0 false) = 126 by decide +kernel] at k1
  rw [show patR 8 false (rndX 8 23 9223372036854775808 0 false) = 127 by decide +kernel] at k2
  unfold exV at k1 k2
  rw [show ((9223372036854775808 : Nat) : Int) = 9223372036854775808 from rfl, show ((0 : Nat) : Int) = 0 from rfl] at k1 k2
  rw [show ((126 : Nat) : Int) = 126 from rfl] at k1
  rw [show ((127 : Nat) : Int) = 127 from rfl] at k2
  refine cps fun Q hQ => ?_
  go_enter Try.func9, Try.ntmps9
  go_wp2_with (first
    | (go_at_call_of 17 (22 : Int); refine (k1 _).mono ?_; rintro e w1 ⟨rfl, hb1⟩)
    | (go_at_call 17; refine (k2 _).mono ?_; rintro e w2 ⟨rfl, hb2⟩))
  exact hQ.out _ _ ⟨rfl, hb1.trans (hb2.mono hb1.size)⟩
theorem soundX_cases {k : Int} {neg : Bool} {s : Int} {hi lo : Nat} {rest : Bool} (h : soundX k neg s hi lo rest = true) : (k = 0 ∧ neg = false ∧ s = 0 ∧ hi = 0 ∧ lo = 0 ∧ rest = false) ∨ (k = 2 ∧ neg = false ∧ s = 0 ∧ hi = 0 ∧ lo = 0 ∧ rest = false) ∨ k = 1 := by
  unfold soundX at h
  split at h
  · rename_i hk
    have := of_decide_eq_true h
    rcases hk with rfl | rfl
    · exact .inl ⟨rfl, this⟩
    · exact .inr (.inl ⟨rfl, this⟩)
  · exact .inr (.inr (of_decide_eq_true h).1)
theorem soundX_top {neg : Bool} {s : Int} {hi lo : Nat} {rest : Bool} (h : soundX 1 neg s hi lo rest = true) : 9223372036854775808 ≤ hi := by
  unfold soundX at h
  rw [if_neg (by decide)] at h
  exact (of_decide_eq_true h).2.1
theorem rounds7_no (n : Int) (k : Int) (neg : Bool) (s : Int) (hi lo : Nat) (rest : Bool) (hn : isW n = false) (w : World) :
    Calls Try.prog 18 #[.int .i64 n, exV k neg s hi lo rest] w fun e w' => e = .returned (.tuple #[.int .u64 0, .int .i64 2]) ∧ Below w.heap.size w w' :=
  rounds7_err n k neg s hi lo rest 2 (by decide) w (fun w => cut7_no n k neg s hi lo rest hn w)
theorem rounds7_bad (n : Nat) (k : Int) (neg : Bool) (s : Int) (hi lo : Nat) (rest : Bool) (hn : Wd n) (hs : soundX k neg s hi lo rest = false) (w : World) :
    Calls Try.prog 18 #[.int .i64 n, exV k neg s hi lo rest] w fun e w' => e = .returned (.tuple #[.int .u64 0, .int .i64 1]) ∧ Below w.heap.size w w' :=
  rounds7_err n k neg s hi lo rest 1 (by decide) w (fun w => cut7_bad n k neg s hi lo rest hn hs w)
theorem rounds7_zero (n : Nat) (hn : Wd n) (w : World) :
    Calls Try.prog 18 #[.int .i64 n, exV 0 false 0 0 0 false] w fun e w' => e = .returned (.tuple #[.int .u64 0, .int .i64 0]) ∧ Below w.heap.size w w' :=
  rounds7_plain n 0 0 w (fun w => cut7_zero n hn w)
theorem rounds7_nar (n : Nat) (hn : Wd n) (w : World) :
    Calls Try.prog 18 #[.int .i64 n, exV 2 false 0 0 0 false] w fun e w' => e = .returned (.tuple #[.int .u64 (2 ^ (n - 1) : Nat), .int .i64 0]) ∧ Below w.heap.size w w' :=
  rounds7_plain n 2 (2 ^ (n - 1)) w (fun w => cut7_nar n hn w)
end Go.Proofs.Ytajlgpamcpgalaa

namespace Go.Proofs.Ytajlgpamcpgalaa
open Go.ChangeShapes Go.WideShapes Go.ChangeAt Go.RowKit
set_option linter.unusedVariables false
set_option linter.unusedSimpArgs false

section
variable {H : Type} {enc : TypeId × Value → H} {P : Program} {w : World} {base : Nat} {spare : Nat → Bool} {held : Bool}
theorem arr6 {α : Type} {cs : Array α} (h : cs.size = 6) : ∃ c0 c1 c2 c3 c4 c5, cs = #[c0, c1, c2, c3, c4, c5] := by
  obtain ⟨l⟩ := cs
  match l, h with
  | [c0, c1, c2, c3, c4, c5], _ => exact ⟨c0, c1, c2, c3, c4, c5, rfl⟩
theorem lst6 {α : Type} {l : List α} (h : l.length = 6) : ∃ c0 c1 c2 c3 c4 c5, l = [c0, c1, c2, c3, c4, c5] := by
  match l, h with
  | [c0, c1, c2, c3, c4, c5], _ => exact ⟨c0, c1, c2, c3, c4, c5, rfl⟩
theorem open_agg6 {r : Reach} {b0 : Nat} {t : TypeId} {f0 f1 f2 f3 f4 f5 : Field} {v : Value} {d : DataW H} {p : List MemPlace} (hs : P.underlying t = some (.struct #[f0, f1, f2, f3, f4, f5])) (hone : Deep.oneCellFields P #[f0, f1, f2, f3, f4, f5] = true) (hC : P.cellsOf t = 6)
    (hv : Value.okWide P w r b0 t v) (h : DataW.Trod enc P w base spare held t v d p) :
    ∃ (v0 v1 v2 v3 v4 v5 : Value) (y0 y1 y2 y3 y4 y5 : DataW H × List MemPlace) (n : Nat), v = .agg #[v0, v1, v2, v3, v4, v5] ∧ d = .agg [y0.1, y1.1, y2.1, y3.1, y4.1, y5.1] ∧ p = y0.2 ++ (y1.2 ++ (y2.2 ++ (y3.2 ++ (y4.2 ++ y5.2)))) ∧
      DataW.trod enc P w base spare held n f0.type [v0] = some y0 ∧ DataW.trod enc P w base spare held n f1.type [v1] = some y1 ∧ DataW.trod enc P w base spare held n f2.type [v2] = some y2 ∧ DataW.trod enc P w base spare held n f3.type [v3] = some y3 ∧ DataW.trod enc P w base spare held n f4.type [v4] = some y4 ∧ DataW.trod enc P w base spare held n f5.type [v5] = some y5 := by
  obtain ⟨cs, rfl, hsz⟩ := okWide_struct hs hv
  obtain ⟨c0, c1, c2, c3, c4, c5, rfl⟩ := arr6 (hsz.trans hC)
  obtain ⟨fuel, hf⟩ := h
  obtain ⟨xs, n, _, hx, _, hlen, hg⟩ := DataW.trod_struct hs hf
  obtain ⟨y0, y1, y2, y3, y4, y5, rfl⟩ := lst6 (l := xs) (by simpa using hlen)
  obtain ⟨o0, k0⟩ := Deep.hone_of hone 0 f0 rfl
  obtain ⟨o1, k1⟩ := Deep.hone_of hone 1 f1 rfl
  obtain ⟨o2, k2⟩ := Deep.hone_of hone 2 f2 rfl
  obtain ⟨o3, k3⟩ := Deep.hone_of hone 3 f3 rfl
  obtain ⟨o4, k4⟩ := Deep.hone_of hone 4 f4 rfl
  obtain ⟨o5, k5⟩ := Deep.hone_of hone 5 f5 rfl
  have g0 := hg 0 f0 rfl
  have g1 := hg 1 f1 rfl
  have g2 := hg 2 f2 rfl
  have g3 := hg 3 f3 rfl
  have g4 := hg 4 f4 rfl
  have g5 := hg 5 f5 rfl
  simp only [Prod.mk.injEq] at hx
  exact ⟨c0, c1, c2, c3, c4, c5, y0, y1, y2, y3, y4, y5, n, rfl, by rw [hx.1]; rfl, by rw [hx.2]; simp, by simpa [Value.cells, o0, k0] using g0, by simpa [Value.cells, o1, k1] using g1, by simpa [Value.cells, o2, k2] using g2, by simpa [Value.cells, o3, k3] using g3, by simpa [Value.cells, o4, k4] using g4, by simpa [Value.cells, o5, k5] using g5⟩
theorem shut_agg6 {t : TypeId} {f0 f1 f2 f3 f4 f5 : Field} {v0 v1 v2 v3 v4 v5 : Value} {y0 y1 y2 y3 y4 y5 : DataW H × List MemPlace} (hs : P.underlying t = some (.struct #[f0, f1, f2, f3, f4, f5])) (hone : Deep.oneCellFields P #[f0, f1, f2, f3, f4, f5] = true) (hC : P.cellsOf t = 6)
    (t0 : ∃ n, DataW.trod enc P w base spare held n f0.type [v0] = some y0) (t1 : ∃ n, DataW.trod enc P w base spare held n f1.type [v1] = some y1) (t2 : ∃ n, DataW.trod enc P w base spare held n f2.type [v2] = some y2) (t3 : ∃ n, DataW.trod enc P w base spare held n f3.type [v3] = some y3) (t4 : ∃ n, DataW.trod enc P w base spare held n f4.type [v4] = some y4) (t5 : ∃ n, DataW.trod enc P w base spare held n f5.type [v5] = some y5) :
    DataW.Trod enc P w base spare held t (.agg #[v0, v1, v2, v3, v4, v5]) (.agg [y0.1, y1.1, y2.1, y3.1, y4.1, y5.1]) (y0.2 ++ (y1.2 ++ (y2.2 ++ (y3.2 ++ (y4.2 ++ y5.2))))) := by
  obtain ⟨n0, t0⟩ := t0
  obtain ⟨n1, t1⟩ := t1
  obtain ⟨n2, t2⟩ := t2
  obtain ⟨n3, t3⟩ := t3
  obtain ⟨n4, t4⟩ := t4
  obtain ⟨n5, t5⟩ := t5
  obtain ⟨n, hn⟩ : ∃ n, n = n0 + n1 + n2 + n3 + n4 + n5 := ⟨_, rfl⟩
  obtain ⟨o0, k0⟩ := Deep.hone_of hone 0 f0 rfl
  obtain ⟨o1, k1⟩ := Deep.hone_of hone 1 f1 rfl
  obtain ⟨o2, k2⟩ := Deep.hone_of hone 2 f2 rfl
  obtain ⟨o3, k3⟩ := Deep.hone_of hone 3 f3 rfl
  obtain ⟨o4, k4⟩ := Deep.hone_of hone 4 f4 rfl
  obtain ⟨o5, k5⟩ := Deep.hone_of hone 5 f5 rfl
  have e0 := DataW.trod_le (show n0 ≤ n by omega) t0
  have e1 := DataW.trod_le (show n1 ≤ n by omega) t1
  have e2 := DataW.trod_le (show n2 ≤ n by omega) t2
  have e3 := DataW.trod_le (show n3 ≤ n by omega) t3
  have e4 := DataW.trod_le (show n4 ≤ n by omega) t4
  have e5 := DataW.trod_le (show n5 ≤ n by omega) t5
  have b0 : DataW.trod enc P w base spare held n f0.type ((([v0, v1, v2, v3, v4, v5] : List Value).drop f0.offset).take (P.cellsOf f0.type)) = some y0 := by simpa [o0, k0] using e0
  have b1 : DataW.trod enc P w base spare held n f1.type ((([v0, v1, v2, v3, v4, v5] : List Value).drop f1.offset).take (P.cellsOf f1.type)) = some y1 := by simpa [o1, k1] using e1
  have b2 : DataW.trod enc P w base spare held n f2.type ((([v0, v1, v2, v3, v4, v5] : List Value).drop f2.offset).take (P.cellsOf f2.type)) = some y2 := by simpa [o2, k2] using e2
  have b3 : DataW.trod enc P w base spare held n f3.type ((([v0, v1, v2, v3, v4, v5] : List Value).drop f3.offset).take (P.cellsOf f3.type)) = some y3 := by simpa [o3, k3] using e3
  have b4 : DataW.trod enc P w base spare held n f4.type ((([v0, v1, v2, v3, v4, v5] : List Value).drop f4.offset).take (P.cellsOf f4.type)) = some y4 := by simpa [o4, k4] using e4
  have b5 : DataW.trod enc P w base spare held n f5.type ((([v0, v1, v2, v3, v4, v5] : List Value).drop f5.offset).take (P.cellsOf f5.type)) = some y5 := by simpa [o5, k5] using e5
  have ts := trod_struct_mk (enc := enc) (w := w) (base := base) (spare := spare) (held := held) (n := n) (cs := [v0, v1, v2, v3, v4, v5]) (xs := [y0, y1, y2, y3, y4, y5]) hs (by simp [hC]) (by simp [b0, b1, b2, b3, b4, b5])
  exact ⟨_, by simpa [Value.cells] using ts⟩
theorem arr8 {α : Type} {cs : Array α} (h : cs.size = 8) : ∃ c0 c1 c2 c3 c4 c5 c6 c7, cs = #[c0, c1, c2, c3, c4, c5, c6, c7] := by
  obtain ⟨l⟩ := cs
  match l, h with
  | [c0, c1, c2, c3, c4, c5, c6, c7], _ => exact ⟨c0, c1, c2, c3, c4, c5, c6, c7, rfl⟩
theorem lst8 {α : Type} {l : List α} (h : l.length = 8) : ∃ c0 c1 c2 c3 c4 c5 c6 c7, l = [c0, c1, c2, c3, c4, c5, c6, c7] := by
  match l, h with
  | [c0, c1, c2, c3, c4, c5, c6, c7], _ => exact ⟨c0, c1, c2, c3, c4, c5, c6, c7, rfl⟩
theorem open_agg8 {r : Reach} {b0 : Nat} {t : TypeId} {f0 f1 f2 f3 f4 f5 f6 f7 : Field} {v : Value} {d : DataW H} {p : List MemPlace} (hs : P.underlying t = some (.struct #[f0, f1, f2, f3, f4, f5, f6, f7])) (hone : Deep.oneCellFields P #[f0, f1, f2, f3, f4, f5, f6, f7] = true) (hC : P.cellsOf t = 8)
    (hv : Value.okWide P w r b0 t v) (h : DataW.Trod enc P w base spare held t v d p) :
    ∃ (v0 v1 v2 v3 v4 v5 v6 v7 : Value) (y0 y1 y2 y3 y4 y5 y6 y7 : DataW H × List MemPlace) (n : Nat), v = .agg #[v0, v1, v2, v3, v4, v5, v6, v7] ∧ d = .agg [y0.1, y1.1, y2.1, y3.1, y4.1, y5.1, y6.1, y7.1] ∧ p = y0.2 ++ (y1.2 ++ (y2.2 ++ (y3.2 ++ (y4.2 ++ (y5.2 ++ (y6.2 ++ y7.2)))))) ∧
      DataW.trod enc P w base spare held n f0.type [v0] = some y0 ∧ DataW.trod enc P w base spare held n f1.type [v1] = some y1 ∧ DataW.trod enc P w base spare held n f2.type [v2] = some y2 ∧ DataW.trod enc P w base spare held n f3.type [v3] = some y3 ∧ DataW.trod enc P w base spare held n f4.type [v4] = some y4 ∧ DataW.trod enc P w base spare held n f5.type [v5] = some y5 ∧ DataW.trod enc P w base spare held n f6.type [v6] = some y6 ∧ DataW.trod enc P w base spare held n f7.type [v7] = some y7 := by
  obtain ⟨cs, rfl, hsz⟩ := okWide_struct hs hv
  obtain ⟨c0, c1, c2, c3, c4, c5, c6, c7, rfl⟩ := arr8 (hsz.trans hC)
  obtain ⟨fuel, hf⟩ := h
  obtain ⟨xs, n, _, hx, _, hlen, hg⟩ := DataW.trod_struct hs hf
  obtain ⟨y0, y1, y2, y3, y4, y5, y6, y7, rfl⟩ := lst8 (l := xs) (by simpa using hlen)
  obtain ⟨o0, k0⟩ := Deep.hone_of hone 0 f0 rfl
  obtain ⟨o1, k1⟩ := Deep.hone_of hone 1 f1 rfl
  obtain ⟨o2, k2⟩ := Deep.hone_of hone 2 f2 rfl
  obtain ⟨o3, k3⟩ := Deep.hone_of hone 3 f3 rfl
  obtain ⟨o4, k4⟩ := Deep.hone_of hone 4 f4 rfl
  obtain ⟨o5, k5⟩ := Deep.hone_of hone 5 f5 rfl
  obtain ⟨o6, k6⟩ := Deep.hone_of hone 6 f6 rfl
  obtain ⟨o7, k7⟩ := Deep.hone_of hone 7 f7 rfl
  have g0 := hg 0 f0 rfl
  have g1 := hg 1 f1 rfl
  have g2 := hg 2 f2 rfl
  have g3 := hg 3 f3 rfl
  have g4 := hg 4 f4 rfl
  have g5 := hg 5 f5 rfl
  have g6 := hg 6 f6 rfl
  have g7 := hg 7 f7 rfl
  simp only [Prod.mk.injEq] at hx
  exact ⟨c0, c1, c2, c3, c4, c5, c6, c7, y0, y1, y2, y3, y4, y5, y6, y7, n, rfl, by rw [hx.1]; rfl, by rw [hx.2]; simp, by simpa [Value.cells, o0, k0] using g0, by simpa [Value.cells, o1, k1] using g1, by simpa [Value.cells, o2, k2] using g2, by simpa [Value.cells, o3, k3] using g3, by simpa [Value.cells, o4, k4] using g4, by simpa [Value.cells, o5, k5] using g5, by simpa [Value.cells, o6, k6] using g6, by simpa [Value.cells, o7, k7] using g7⟩
theorem shut_agg8 {t : TypeId} {f0 f1 f2 f3 f4 f5 f6 f7 : Field} {v0 v1 v2 v3 v4 v5 v6 v7 : Value} {y0 y1 y2 y3 y4 y5 y6 y7 : DataW H × List MemPlace} (hs : P.underlying t = some (.struct #[f0, f1, f2, f3, f4, f5, f6, f7])) (hone : Deep.oneCellFields P #[f0, f1, f2, f3, f4, f5, f6, f7] = true) (hC : P.cellsOf t = 8)
    (t0 : ∃ n, DataW.trod enc P w base spare held n f0.type [v0] = some y0) (t1 : ∃ n, DataW.trod enc P w base spare held n f1.type [v1] = some y1) (t2 : ∃ n, DataW.trod enc P w base spare held n f2.type [v2] = some y2) (t3 : ∃ n, DataW.trod enc P w base spare held n f3.type [v3] = some y3) (t4 : ∃ n, DataW.trod enc P w base spare held n f4.type [v4] = some y4) (t5 : ∃ n, DataW.trod enc P w base spare held n f5.type [v5] = some y5) (t6 : ∃ n, DataW.trod enc P w base spare held n f6.type [v6] = some y6) (t7 : ∃ n, DataW.trod enc P w base spare held n f7.type [v7] = some y7) :
    DataW.Trod enc P w base spare held t (.agg #[v0, v1, v2, v3, v4, v5, v6, v7]) (.agg [y0.1, y1.1, y2.1, y3.1, y4.1, y5.1, y6.1, y7.1]) (y0.2 ++ (y1.2 ++ (y2.2 ++ (y3.2 ++ (y4.2 ++ (y5.2 ++ (y6.2 ++ y7.2))))))) := by
  obtain ⟨n0, t0⟩ := t0
  obtain ⟨n1, t1⟩ := t1
  obtain ⟨n2, t2⟩ := t2
  obtain ⟨n3, t3⟩ := t3
  obtain ⟨n4, t4⟩ := t4
  obtain ⟨n5, t5⟩ := t5
  obtain ⟨n6, t6⟩ := t6
  obtain ⟨n7, t7⟩ := t7
  obtain ⟨n, hn⟩ : ∃ n, n = n0 + n1 + n2 + n3 + n4 + n5 + n6 + n7 := ⟨_, rfl⟩
  obtain ⟨o0, k0⟩ := Deep.hone_of hone 0 f0 rfl
  obtain ⟨o1, k1⟩ := Deep.hone_of hone 1 f1 rfl
  obtain ⟨o2, k2⟩ := Deep.hone_of hone 2 f2 rfl
  obtain ⟨o3, k3⟩ := Deep.hone_of hone 3 f3 rfl
  obtain ⟨o4, k4⟩ := Deep.hone_of hone 4 f4 rfl
  obtain ⟨o5, k5⟩ := Deep.hone_of hone 5 f5 rfl
  obtain ⟨o6, k6⟩ := Deep.hone_of hone 6 f6 rfl
  obtain ⟨o7, k7⟩ := Deep.hone_of hone 7 f7 rfl
  have e0 := DataW.trod_le (show n0 ≤ n by omega) t0
  have e1 := DataW.trod_le (show n1 ≤ n by omega) t1
  have e2 := DataW.trod_le (show n2 ≤ n by omega) t2
  have e3 := DataW.trod_le (show n3 ≤ n by omega) t3
  have e4 := DataW.trod_le (show n4 ≤ n by omega) t4
  have e5 := DataW.trod_le (show n5 ≤ n by omega) t5
  have e6 := DataW.trod_le (show n6 ≤ n by omega) t6
  have e7 := DataW.trod_le (show n7 ≤ n by omega) t7
  have b0 : DataW.trod enc P w base spare held n f0.type ((([v0, v1, v2, v3, v4, v5, v6, v7] : List Value).drop f0.offset).take (P.cellsOf f0.type)) = some y0 := by simpa [o0, k0] using e0
  have b1 : DataW.trod enc P w base spare held n f1.type ((([v0, v1, v2, v3, v4, v5, v6, v7] : List Value).drop f1.offset).take (P.cellsOf f1.type)) = some y1 := by simpa [o1, k1] using e1
  have b2 : DataW.trod enc P w base spare held n f2.type ((([v0, v1, v2, v3, v4, v5, v6, v7] : List Value).drop f2.offset).take (P.cellsOf f2.type)) = some y2 := by simpa [o2, k2] using e2
  have b3 : DataW.trod enc P w base spare held n f3.type ((([v0, v1, v2, v3, v4, v5, v6, v7] : List Value).drop f3.offset).take (P.cellsOf f3.type)) = some y3 := by simpa [o3, k3] using e3
  have b4 : DataW.trod enc P w base spare held n f4.type ((([v0, v1, v2, v3, v4, v5, v6, v7] : List Value).drop f4.offset).take (P.cellsOf f4.type)) = some y4 := by simpa [o4, k4] using e4
  have b5 : DataW.trod enc P w base spare held n f5.type ((([v0, v1, v2, v3, v4, v5, v6, v7] : List Value).drop f5.offset).take (P.cellsOf f5.type)) = some y5 := by simpa [o5, k5] using e5
  have b6 : DataW.trod enc P w base spare held n f6.type ((([v0, v1, v2, v3, v4, v5, v6, v7] : List Value).drop f6.offset).take (P.cellsOf f6.type)) = some y6 := by simpa [o6, k6] using e6
  have b7 : DataW.trod enc P w base spare held n f7.type ((([v0, v1, v2, v3, v4, v5, v6, v7] : List Value).drop f7.offset).take (P.cellsOf f7.type)) = some y7 := by simpa [o7, k7] using e7
  have ts := trod_struct_mk (enc := enc) (w := w) (base := base) (spare := spare) (held := held) (n := n) (cs := [v0, v1, v2, v3, v4, v5, v6, v7]) (xs := [y0, y1, y2, y3, y4, y5, y6, y7]) hs (by simp [hC]) (by simp [b0, b1, b2, b3, b4, b5, b6, b7])
  exact ⟨_, by simpa [Value.cells] using ts⟩
end
end Go.Proofs.Ytajlgpamcpgalaa

namespace Go.Proofs.Ytajlgpamcpgalaa
set_option linter.unusedVariables false
set_option linter.unusedSimpArgs false

/-! ### what a string means, as the number of its string (plain mathematics: P7.5's ties) -/
theorem scaleL_range (t : List Bool) (hl : t.length ≤ 63) : -256 ≤ scaleL t ∧ scaleL t ≤ 255 := by
  have hex : expL t < 4 := by
    have := numOf_lt ((restL t ++ noughts 2).take 2)
    rw [show ((restL t ++ noughts 2).take 2).length = 2 by simp] at this
    exact this
  have h1 := runL_le t
  unfold scaleL regL
  split <;> omega
theorem words_of (t : List Bool) : WordsX (wordL t) 0 := ⟨(wordL_bounds t).1, (wordL_bounds t).2, by decide⟩
theorem strX_canon (s : Int) (f : Nat) : strX s f 0 = canon s f ++ noughts 64 := by
  have : bitsOf 0 64 = noughts 64 := by decide
  unfold strX canon digX
  rw [this]; simp
theorem zed_parse (t : List Bool) (ht : true ∈ t) (hl : t.length ≤ 63) : zed (scaleL t) (manX (wordL t) 0) = numOf t * 2 ^ (209 - t.length) := by
  obtain ⟨z, hz, _⟩ := canon_parse t ht (by omega)
  have hr := scaleL_range t hl
  obtain ⟨h1, h2⟩ := zed_str (scaleL t) (manX (wordL t) 0) (digX (wordL t) 0) (digX_length _ _) (digX_num (words_of t)) (by omega) (by omega)
  have e : headK (scaleL t / 4) ++ bitsOf (scaleL t % 4).toNat 2 ++ digX (wordL t) 0 = t ++ noughts (z + 64) := by
    have := strX_canon (scaleL t) (wordL t)
    rw [hz, List.append_assoc, noughts_add] at this
    exact this
  rw [e, List.length_append, List.length_replicate] at h1 h2
  rw [← h2, numOf_append, numOf_noughts, Nat.add_zero, List.length_replicate, Nat.mul_assoc, ← Nat.pow_add]
  congr 2; omega
/-- the tie behind p: p, a 1 and noughts, in the width 64 -/
def tieL (n p : Nat) : List Bool := bitsOf p (n - 1) ++ true :: noughts (63 - n)
theorem tie_zed (n p : Nat) (h1 : 1 ≤ n) (h2 : n ≤ 63) (hp : p < 2 ^ (n - 1)) :
    2 * zed (scaleL (tieL n p)) (manX (wordL (tieL n p)) 0) = p * (2 * 2 ^ (210 - n)) + 2 ^ (210 - n) := by
  have hl : (tieL n p).length = 63 := by unfold tieL; rw [List.length_append, bitsOf_length, List.length_cons, List.length_replicate]; omega
  have ht : true ∈ tieL n p := List.mem_append_right _ (List.mem_cons_self ..)
  rw [zed_parse _ ht (by omega), hl]
  have hn : numOf (tieL n p) = (2 * p + 1) * 2 ^ (63 - n) := by
    unfold tieL
    rw [numOf_append, numOf_bits, Nat.mod_eq_of_lt hp, numOf_cons, numOf_noughts, List.length_cons, List.length_replicate, Nat.pow_succ]
    simp only [Bool.toNat_true, Nat.one_mul, Nat.add_zero]
    rw [Nat.add_mul, Nat.one_mul, ← Nat.mul_assoc, Nat.mul_comm (p * 2 ^ (63 - n)) 2, ← Nat.mul_assoc]
  have e1 : 2 ^ (210 - n) = 2 * (2 ^ (63 - n) * 2 ^ (209 - 63)) := by
    rw [← Nat.pow_add, ← Nat.pow_succ']; congr 1; omega
  rw [hn, e1]
  generalize 2 ^ (209 - 63) = B
  generalize 2 ^ (63 - n) = A
  rw [Nat.mul_assoc (2 * p + 1) A B]
  generalize A * B = C
  rw [Nat.add_mul, Nat.one_mul, Nat.mul_add]
  congr 1
  simp only [Nat.mul_assoc, Nat.mul_left_comm]
end Go.Proofs.Ytajlgpamcpgalaa

namespace Go.Proofs.Ytajlgpamcpgalaa
open Go.ChangeShapes Go.WideShapes Go.ChangeAt Go.RowKit
set_option linter.unusedVariables false
set_option linter.unusedSimpArgs false
set_option maxRecDepth 100000

/-! ### what a pattern means is rounded to it (plain mathematics) -/
theorem rhe_mul (H p : Nat) (hH : 0 < H) : rhe H (p * (2 * H)) = p := by
  unfold rhe
  rw [Nat.mul_div_cancel _ (by omega), Nat.mul_mod_left, if_pos rfl]
  unfold roundP
  rw [if_neg (by omega)]
theorem str_ends (m : Nat) (t : List Bool) (hm : Wd m) (hl : t.length = m - 1) (ht : true ∈ t) :
    (scaleL t = 4 * (m : Int) - 8 → numOf t = 2 ^ (m - 1) - 1) ∧ (scaleL t = 8 - 4 * (m : Int) → numOf t = 1) := by
  have hw := wd_le hm
  have hne : t ≠ [] := by rintro rfl; cases ht
  have hex : expL t < 4 := by
    have := numOf_lt ((restL t ++ noughts 2).take 2)
    rw [show ((restL t ++ noughts 2).take 2).length = 2 by simp] at this
    exact this
  obtain ⟨b, r, tl, rfl, htl⟩ := split_run t hne
  rw [List.length_append, List.length_replicate] at hl
  unfold scaleL regL
  rw [runL_rep b r tl htl, onesL_rep]
  generalize expL (List.replicate (r + 1) b ++ tl) = ex at *
  constructor
  · intro h
    cases b
    · simp at h; omega
    · simp at h
      have hr : r + 1 = m - 1 := by omega
      have htl0 : tl = [] := List.length_eq_zero_iff.1 (by omega)
      rw [htl0, List.append_nil, numOf_ones, hr]
  · intro h
    cases b
    · simp at h
      have hr : r + 1 = m - 2 ∨ r + 1 = m - 1 := by omega
      rcases htl with rfl | ⟨u, rfl⟩
      · rw [List.append_nil, List.mem_replicate] at ht
        exact absurd ht.2 (by decide)
      · rw [List.length_cons] at hl
        have hu : u = [] := List.length_eq_zero_iff.1 (by omega)
        subst hu
        rw [show List.replicate (r + 1) false = noughts (r + 1) from rfl, numOf_noughts_append]
        rfl
    · simp at h; omega
theorem rnd_home (m : Nat) (t : List Bool) (hm : Wd m) (hl : t.length = m - 1) (ht : true ∈ t) : rndX m (scaleL t) (wordL t) 0 false = numOf t := by
  have hw := wd_le hm
  have hr := of_decide_eq_true (inR_of m t hm hl ht)
  obtain ⟨e1, e2⟩ := str_ends m t hm hl ht
  rcases mid_or m (scaleL t) (justX (wordL t) 0 false) with h | h | ⟨h0, h⟩
  · rw [(rnd_mid m _ _ _ _ hm (words_of t) h).1]
    unfold zX
    rw [zed_parse t ht (by omega), hl, show 209 - (m - 1) = 210 - m by omega]
    have := rhe_mul (2 ^ (210 - m)) (numOf t) (Nat.pow_pos (by decide))
    rw [show numOf t * (2 * 2 ^ (210 - m)) = 2 * (numOf t * 2 ^ (210 - m)) by rw [Nat.mul_left_comm]] at this
    simpa using this
  · rw [rnd_top m _ _ _ _ h, e1 (by omega)]
  · rw [rnd_low m _ _ _ _ h0 h, e2 (by rcases h with h | h <;> omega)]
/-! ### ranks of patterns that are rounded -/
theorem extOf_patR (n : Nat) (hn : Wd n) (neg : Bool) (R : Nat) (h1 : 1 ≤ R) (h2 : R ≤ 2 ^ (n - 1) - 1) : extOf (patR n neg R) n = if neg then -(R : Int) else R := by
  obtain ⟨H, e1, e2, e3, _⟩ := wd_pows hn
  unfold patR
  rw [e2] at h2
  cases neg
  · simp only [Bool.false_eq_true, if_false]
    have hlt : R < 2 ^ n := by rw [e1]; omega
    have ht := top_of n R hn hlt
    rw [e2, decide_eq_false (by omega)] at ht
    unfold extOf
    rw [ht, Nat.mod_eq_of_lt hlt]; simp
  · simp only [if_true]
    have hlt : 2 ^ n - R < 2 ^ n := by rw [e1]; omega
    have ht := top_of n _ hn hlt
    rw [e2, decide_eq_true (by rw [e1]; omega)] at ht
    unfold extOf
    rw [ht, Nat.mod_eq_of_lt hlt, e1]; simp; omega
theorem extOf_nought (n : Nat) : extOf 0 n = 0 := by unfold extOf; simp
def valX (n : Nat) (k : Int) (neg : Bool) (s : Int) (hi lo : Nat) : Int := if k = 1 then (if neg then -(rndX n s hi lo false : Int) else rndX n s hi lo false) else 0
/-- a number that is a Zero or a Real without Rest, rounded -/
theorem rround_val (n : Nat) (hn : Wd n) (k : Int) (neg : Bool) (s : Int) (hi lo : Nat) (hh : hi < 2 ^ 64) (hl : lo < 2 ^ 64) (hs : soundX k neg s hi lo false = true) (hk : k ≠ 2) :
    ∃ P : Nat, (∀ w, Calls Try.prog 17 #[.int .i64 n, exV k neg s hi lo false] w fun e w' => e = .returned (.tuple #[.int .u64 P, .nilIface]) ∧ Below w.heap.size w w') ∧ extOf P n = valX n k neg s hi lo := by
  rcases soundX_cases hs with ⟨rfl, rfl, rfl, rfl, rfl, _⟩ | ⟨rfl, _⟩ | rfl
  · exact ⟨0, fun w => rround_zero n hn w, by rw [extOf_nought]; rfl⟩
  · exact absurd rfl hk
  · have hx : WordsX hi lo := ⟨soundX_top hs, hh, hl⟩
    obtain ⟨r1, r2⟩ := rnd_range n s hi lo false hn hx
    exact ⟨_, fun w => rround_real n neg s hi lo false hn hs hx w, by rw [extOf_patR n hn neg _ r1 r2]; unfold valX; rw [if_pos rfl]⟩
theorem lexN {hi lo hi' lo' : Nat} (hl : lo < 2 ^ 64) (hl' : lo' < 2 ^ 64) : (hi < hi' ∨ (hi = hi' ∧ lo < lo')) ↔ manX hi lo < manX hi' lo' := by
  unfold manX; omega
/-- the document's Cmp is on the side of what is rounded -/
theorem cmp7_val (n : Nat) (hn : Wd n) (k k' : Int) (neg neg' : Bool) (s s' : Int) (hi lo hi' lo' : Nat) (hh : hi < 2 ^ 64) (hl : lo < 2 ^ 64) (hh' : hi' < 2 ^ 64) (hl' : lo' < 2 ^ 64)
    (hs : soundX k neg s hi lo false = true) (hs' : soundX k' neg' s' hi' lo' false = true) (hk : k ≠ 2) (hk' : k' ≠ 2) :
    ∃ c : Int, (∀ w, Calls Try.prog 23 #[exV k neg s hi lo false, exV k' neg' s' hi' lo' false] w fun e w' => e = .returned (.int .i64 c) ∧ Below w.heap.size w w') ∧
      (c ≤ 0 → valX n k neg s hi lo ≤ valX n k' neg' s' hi' lo') ∧ (0 ≤ c → valX n k' neg' s' hi' lo' ≤ valX n k neg s hi lo) := by
  have sg : ∀ (k : Int) (neg : Bool) (s : Int) (hi lo : Nat), hi < 2 ^ 64 → lo < 2 ^ 64 → soundX k neg s hi lo false = true → k ≠ 2 →
      (sgnX k neg = 0 ∧ k = 0 ∧ valX n k neg s hi lo = 0) ∨ (sgnX k neg = 1 ∧ k = 1 ∧ neg = false ∧ 1 ≤ valX n k neg s hi lo) ∨ (sgnX k neg = -1 ∧ k = 1 ∧ neg = true ∧ valX n k neg s hi lo ≤ -1) := by
    intro k neg s hi lo hh hl hs hk
    rcases soundX_cases hs with ⟨rfl, rfl, rfl, rfl, rfl, _⟩ | ⟨rfl, _⟩ | rfl
    · exact .inl ⟨rfl, rfl, rfl⟩
    · exact absurd rfl hk
    · obtain ⟨r1, r2⟩ := rnd_range n s hi lo false hn ⟨soundX_top hs, hh, hl⟩
      unfold sgnX valX
      cases neg
      · refine .inr (.inl ⟨by simp, rfl, rfl, ?_⟩)
        simp; omega
      · refine .inr (.inr ⟨by simp, rfl, rfl, ?_⟩)
        simp; omega
  have h1 := sg k neg s hi lo hh hl hs hk
  have h2 := sg k' neg' s' hi' lo' hh' hl' hs' hk'
  by_cases hsg : sgnX k neg = sgnX k' neg'
  · rcases h1 with ⟨a1, a2, a3⟩ | ⟨a1, a2, a3, a4⟩ | ⟨a1, a2, a3, a4⟩
    · have b : sgnX k' neg' = 0 := by rw [← hsg, a1]
      refine ⟨0, fun w => cmp7_zero k k' neg neg' s s' hi lo hi' lo' false false a1 b w, ?_⟩
      rcases h2 with ⟨_, _, b3⟩ | ⟨b1, _⟩ | ⟨b1, _⟩
      · rw [a3, b3]; exact ⟨fun _ => Int.le_refl _, fun _ => Int.le_refl _⟩
      · rw [b] at b1; exact absurd b1 (by decide)
      · rw [b] at b1; exact absurd b1 (by decide)
    · have hk'1 : k' = 1 ∧ neg' = false := by
        rcases h2 with ⟨b1, _⟩ | ⟨b1, b2, b3, _⟩ | ⟨b1, _⟩
        · rw [← hsg, a1] at b1; exact absurd b1 (by decide)
        · exact ⟨b2, b3⟩
        · rw [← hsg, a1] at b1; exact absurd b1 (by decide)
      obtain ⟨rfl, rfl⟩ := hk'1
      subst a2 a3
      have hx : WordsX hi lo := ⟨soundX_top hs, hh, hl⟩
      have hx' : WordsX hi' lo' := ⟨soundX_top hs', hh', hl'⟩
      have m1 := rnd_rise n s s' hi lo hi' lo' hn hx hx'
      have m2 := rnd_rise n s' s hi' lo' hi lo hn hx' hx
      have lx := @lexN hi lo hi' lo' hl hl'
      refine ⟨_, fun w => cmp7_real false s s' hi lo hi' lo' w, ?_, ?_⟩
      · intro hc
        unfold valX
        simp only [if_true, Bool.false_eq_true, if_false] at hc ⊢
        have := m1 (by
          by_cases e1 : s = s' ∧ hi = hi' ∧ lo = lo'
          · obtain ⟨rfl, rfl, rfl⟩ := e1; exact .inr ⟨rfl, Nat.le_refl _⟩
          · rw [if_neg e1] at hc
            by_cases e2 : s < s' ∨ (s = s' ∧ (hi < hi' ∨ (hi = hi' ∧ lo < lo')))
            · rcases e2 with e2 | ⟨e2, e3⟩
              · exact .inl e2
              · exact .inr ⟨e2, Nat.le_of_lt (lx.1 e3)⟩
            · rw [if_neg e2] at hc; omega)
        omega
      · intro hc
        unfold valX
        simp only [if_true, Bool.false_eq_true, if_false] at hc ⊢
        have := m2 (by
          by_cases e1 : s = s' ∧ hi = hi' ∧ lo = lo'
          · obtain ⟨rfl, rfl, rfl⟩ := e1; exact .inr ⟨rfl, Nat.le_refl _⟩
          · rw [if_neg e1] at hc
            by_cases e2 : s < s' ∨ (s = s' ∧ (hi < hi' ∨ (hi = hi' ∧ lo < lo')))
            · rw [if_pos e2] at hc; omega
            · rcases Int.lt_trichotomy s s' with c1 | c1 | c1
              · exact absurd (.inl c1) e2
              · refine .inr ⟨c1.symm, Nat.le_of_not_lt fun hlt => e2 (.inr ⟨c1, lx.2 hlt⟩)⟩
              · exact .inl c1)
        omega
    · have hk'1 : k' = 1 ∧ neg' = true := by
        rcases h2 with ⟨b1, _⟩ | ⟨b1, _⟩ | ⟨b1, b2, b3, _⟩
        · rw [← hsg, a1] at b1; exact absurd b1 (by decide)
        · rw [← hsg, a1] at b1; exact absurd b1 (by decide)
        · exact ⟨b2, b3⟩
      obtain ⟨rfl, rfl⟩ := hk'1
      subst a2 a3
      have hx : WordsX hi lo := ⟨soundX_top hs, hh, hl⟩
      have hx' : WordsX hi' lo' := ⟨soundX_top hs', hh', hl'⟩
      have m1 := rnd_rise n s s' hi lo hi' lo' hn hx hx'
      have m2 := rnd_rise n s' s hi' lo' hi lo hn hx' hx
      have lx := @lexN hi lo hi' lo' hl hl'
      refine ⟨_, fun w => cmp7_real true s s' hi lo hi' lo' w, ?_, ?_⟩
      · intro hc
        unfold valX
        simp only [if_true] at hc ⊢
        have := m2 (by
          by_cases e1 : s = s' ∧ hi = hi' ∧ lo = lo'
          · obtain ⟨rfl, rfl, rfl⟩ := e1; exact .inr ⟨rfl, Nat.le_refl _⟩
          · rw [if_neg e1] at hc
            by_cases e2 : s < s' ∨ (s = s' ∧ (hi < hi' ∨ (hi = hi' ∧ lo < lo')))
            · rw [if_pos e2] at hc; omega
            · rcases Int.lt_trichotomy s s' with c1 | c1 | c1
              · exact absurd (.inl c1) e2
              · refine .inr ⟨c1.symm, Nat.le_of_not_lt fun hlt => e2 (.inr ⟨c1, lx.2 hlt⟩)⟩
              · exact .inl c1)
        omega
      · intro hc
        unfold valX
        simp only [if_true] at hc ⊢
        have := m1 (by
          by_cases e1 : s = s' ∧ hi = hi' ∧ lo = lo'
          · obtain ⟨rfl, rfl, rfl⟩ := e1; exact .inr ⟨rfl, Nat.le_refl _⟩
          · rw [if_neg e1] at hc
            by_cases e2 : s < s' ∨ (s = s' ∧ (hi < hi' ∨ (hi = hi' ∧ lo < lo')))
            · rcases e2 with e2 | ⟨e2, e3⟩
              · exact .inl e2
              · exact .inr ⟨e2, Nat.le_of_lt (lx.1 e3)⟩
            · rw [if_neg e2] at hc; omega)
        omega
  · refine ⟨_, fun w => cmp7_sgn k k' neg neg' s s' hi lo hi' lo' false false hsg w, ?_, ?_⟩
    · intro hc
      by_cases h : sgnX k neg < sgnX k' neg'
      · rcases h1 with ⟨a1, _, a3⟩ | ⟨a1, _, _, a4⟩ | ⟨a1, _, _, a4⟩ <;> rcases h2 with ⟨b1, _, b3⟩ | ⟨b1, _, _, b4⟩ | ⟨b1, _, _, b4⟩ <;> omega
      · rw [if_neg h] at hc; omega
    · intro hc
      by_cases h : sgnX k neg < sgnX k' neg'
      · rw [if_pos h] at hc; omega
      · rcases h1 with ⟨a1, _, a3⟩ | ⟨a1, _, _, a4⟩ | ⟨a1, _, _, a4⟩ <;> rcases h2 with ⟨b1, _, b3⟩ | ⟨b1, _, _, b4⟩ | ⟨b1, _, _, b4⟩ <;> omega
end Go.Proofs.Ytajlgpamcpgalaa
