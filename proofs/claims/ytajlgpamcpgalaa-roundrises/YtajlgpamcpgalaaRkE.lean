import Derived.Test.YtajlgpamcpgalaaRkD
namespace Go.Proofs.Ytajlgpamcpgalaa
open Go.ChangeShapes Go.WideShapes Go.ChangeAt Go.RowKit
set_option linter.unusedVariables false
set_option linter.unusedSimpArgs false
set_option maxRecDepth 100000

/-! ### Of -/
theorem rndof_bad (k : Int) (neg : Bool) (s : Int) (f : Nat) (hf : f < 2 ^ 64) (hs : soundN k neg s f = false) (w : World) :
    Calls Try.prog 13 #[numV k neg s f] w fun e w' => e = .returned (.tuple #[exV 0 false 0 0 0 false, codeV 1]) ∧ Below w.heap.size w w' := by
  have k2 := rsound_any k neg s f 0 false 1073741824 hf (by decide)
  rw [soundF_N, hs] at k2
  unfold numV exV at *
  rw [show ((0 : Nat) : Int) = 0 from rfl] at *
  clear hs
  refine cps fun Q hQ => ?_
  go_enter Try.func13, Try.ntmps13
  go_wp2_with (go_at_call 31; refine (k2 _).mono ?_; rintro e w2 ⟨rfl, hb2⟩; have RR := (hb2.block (w.heap.size + 1) (by simp)).trans ((Below.heap_alloc ((w.alloc _).alloc _) _ _ (by simp)).trans (rownew' _ _ _ _ (by simp))); have r0 := rowcell RR 0; have r1 := rowcell RR 1; have r2 := rowcell RR 2; have r3 := rowcell RR 3; have r4 := rowcell RR 4; have r5 := rowcell RR 5; have rf := rowfree RR; simp only [List.getElem?_toArray, List.getElem?_cons_zero, List.getElem?_cons_succ] at r0 r1 r2 r3 r4 r5; have HB2 : Hid (Below _ _ _) := cthen (cmore (cmore (cmore (Below.refl _ _) _) _) _) hb2; clear hb2 RR)
  refine bodyPost_ret (v := .tuple #[.agg #[.int .i64 0, .bool false, .int .i64 0, .int .u64 0, .int .u64 0, .bool false], codeV 1]) (by simp [results, Try.results13, go_sem, r0, r1, r2, r3, r4, r5]) rfl (hQ.out _ _ ⟨rfl, ?_⟩)
  have hle : w.heap.size ≤ w.heap.size + 1 := by omega
  exact cset (cset (cset (cset (cset (cset HB2.out hle _ _) hle _ _) hle _ _) hle _ _) hle _ _) hle _ _
theorem rndof_ok (k : Int) (neg : Bool) (s : Int) (f : Nat) (hf : f < 2 ^ 64) (hs : soundN k neg s f = true) (w : World) :
    Calls Try.prog 13 #[numV k neg s f] w fun e w' => e = .returned (.tuple #[exV k neg s f 0 false, .nilIface]) ∧ Below w.heap.size w w' := by
  have k2 := rsound_any k neg s f 0 false 1073741824 hf (by decide)
  rw [soundF_N, hs] at k2
  unfold numV exV at *
  rw [show ((0 : Nat) : Int) = 0 from rfl] at *
  clear hs
  refine cps fun Q hQ => ?_
  go_enter Try.func13, Try.ntmps13
  go_wp2_with (go_at_call 31; refine (k2 _).mono ?_; rintro e w2 ⟨rfl, hb2⟩; have RR := (hb2.block (w.heap.size + 1) (by simp)).trans ((Below.heap_alloc ((w.alloc _).alloc _) _ _ (by simp)).trans (rownew' _ _ _ _ (by simp))); have r0 := rowcell RR 0; have r1 := rowcell RR 1; have r2 := rowcell RR 2; have r3 := rowcell RR 3; have r4 := rowcell RR 4; have r5 := rowcell RR 5; have rf := rowfree RR; simp only [List.getElem?_toArray, List.getElem?_cons_zero, List.getElem?_cons_succ] at r0 r1 r2 r3 r4 r5; have RY := (hb2.block (w.heap.size + 2) (by simp)).trans (rownew' _ _ _ _ (by simp)); have y0 := rowcell RY 0; have y1 := rowcell RY 1; have y2 := rowcell RY 2; have y3 := rowcell RY 3; have y4 := rowcell RY 4; have y5 := rowcell RY 5; simp only [List.getElem?_toArray, List.getElem?_cons_zero, List.getElem?_cons_succ] at y0 y1 y2 y3 y4 y5; have HB2 : Hid (Below _ _ _) := cthen (cmore (cmore (cmore (Below.refl _ _) _) _) _) hb2; clear hb2 RR RY)
  refine bodyPost_ret (v := .tuple #[.agg #[.int .i64 k, .bool neg, .int .i64 s, .int .u64 f, .int .u64 0, .bool false], .nilIface]) (by simp [results, Try.results13, go_sem, r0, r1, r2, r3, r4, r5]) rfl (hQ.out _ _ ⟨rfl, ?_⟩)
  have hle : w.heap.size ≤ w.heap.size + 1 := by omega
  exact cset (cset (cset (cset (cset (cset HB2.out hle _ _) hle _ _) hle _ _) hle _ _) hle _ _) hle _ _
/-! ### Round -/
theorem rround_err (n : Int) (k : Int) (neg : Bool) (s : Int) (hi lo : Nat) (rest : Bool) (c : Int) (w : World)
    (k1 : ∀ w, Calls Try.prog 15 #[.int .i64 n, exV k neg s hi lo rest] w fun e w' => e = .returned (.tuple #[.int .u64 0, .int .i64 0, codeV c]) ∧ Below w.heap.size w w') :
    Calls Try.prog 17 #[.int .i64 n, exV k neg s hi lo rest] w fun e w' => e = .returned (.tuple #[.int .u64 0, codeV c]) ∧ Below w.heap.size w w' := by
  unfold exV at *
  refine cps fun Q hQ => ?_
  go_enter Try.func17, Try.ntmps17
  go_wp2_with (go_at_call 15; refine (k1 _).mono ?_; rintro e w2 ⟨rfl, hb2⟩)
  exact hQ.out _ _ ⟨rfl, cthen (cmore (Below.refl _ _) _) hb2⟩
theorem rround_no (n : Int) (k : Int) (neg : Bool) (s : Int) (hi lo : Nat) (rest : Bool) (hh : hi < 2 ^ 64) (hl : lo < 2 ^ 64) (hn : isW n = false) (w : World) :
    Calls Try.prog 17 #[.int .i64 n, exV k neg s hi lo rest] w fun e w' => e = .returned (.tuple #[.int .u64 0, codeV 2]) ∧ Below w.heap.size w w' :=
  rround_err n k neg s hi lo rest 2 w (rcut_no n k neg s hi lo rest hh hl hn)
theorem rround_bad (n : Nat) (k : Int) (neg : Bool) (s : Int) (hi lo : Nat) (rest : Bool) (hn : Wd n) (hh : hi < 2 ^ 64) (hl : lo < 2 ^ 64) (hs : soundX k neg s hi lo rest = false) (w : World) :
    Calls Try.prog 17 #[.int .i64 n, exV k neg s hi lo rest] w fun e w' => e = .returned (.tuple #[.int .u64 0, codeV 1]) ∧ Below w.heap.size w w' :=
  rround_err n k neg s hi lo rest 1 w (rcut_bad n k neg s hi lo rest hn hh hl hs)
theorem rround_plain (n : Int) (k : Int) (P : Nat) (w : World)
    (k1 : ∀ w, Calls Try.prog 15 #[.int .i64 n, exV k false 0 0 0 false] w fun e w' => e = .returned (.tuple #[.int .u64 P, .int .i64 0, .nilIface]) ∧ Below w.heap.size w w') :
    Calls Try.prog 17 #[.int .i64 n, exV k false 0 0 0 false] w fun e w' => e = .returned (.tuple #[.int .u64 P, .nilIface]) ∧ Below w.heap.size w w' := by
  unfold exV at *
  refine cps fun Q hQ => ?_
  go_enter Try.func17, Try.ntmps17
  go_wp2_with (go_at_call 15; refine (k1 _).mono ?_; rintro e w2 ⟨rfl, hb2⟩; have hc := fun b o h => hb2.cell (p := ⟨b, o, none⟩) h; have z1 : w.heap.size < w2.heap.size := (by have := hb2.size; simp at this; omega))
  exact hQ.out _ _ ⟨rfl, cthen (cmore (Below.refl _ _) _) hb2⟩
theorem rround_zero (n : Nat) (hn : Wd n) (w : World) :
    Calls Try.prog 17 #[.int .i64 n, exV 0 false 0 0 0 false] w fun e w' => e = .returned (.tuple #[.int .u64 0, .nilIface]) ∧ Below w.heap.size w w' :=
  rround_plain n 0 0 w (rcut_zero n hn)
theorem rround_nar (n : Nat) (hn : Wd n) (w : World) :
    Calls Try.prog 17 #[.int .i64 n, exV 2 false 0 0 0 false] w fun e w' => e = .returned (.tuple #[.int .u64 (2 ^ (n - 1) : Nat), .nilIface]) ∧ Below w.heap.size w w' :=
  rround_plain n 2 (2 ^ (n - 1)) w (rcut_nar n hn)
set_option maxHeartbeats 2000000 in
theorem rround_real (n : Nat) (neg : Bool) (s : Int) (hi lo : Nat) (rest : Bool) (hn : Wd n) (hs : soundX 1 neg s hi lo rest = true) (h : WordsX hi lo) (w : World) :
    Calls Try.prog 17 #[.int .i64 n, exV 1 neg s hi lo rest] w fun e w' => e = .returned (.tuple #[.int .u64 (patR n neg (rndX n s hi lo rest)), .nilIface]) ∧ Below w.heap.size w w' := by
  have k1 := rcut_real n neg s hi lo rest hn hs h
  obtain ⟨r1, r2⟩ := rnd_range n s hi lo rest hn h
  obtain ⟨H, e1, e2, e3, _⟩ := wd_pows hn
  have hw := wd_le hn
  have hH : H ≤ 2 ^ 63 := by rw [← e2]; exact Nat.pow_le_pow_right (by decide) (by omega)
  have k2 := fold_ok n (minusU (rndX n s hi lo rest)) hn (minusU_lt _)
  have hneg : minusU (rndX n s hi lo rest) % 2 ^ n = 2 ^ n - rndX n s hi lo rest := by
    rw [minusU_mod n _ hn (by omega), Nat.mod_eq_of_lt (a := rndX n s hi lo rest) (by omega), Nat.mod_eq_of_lt (by omega)]
  rw [hneg] at k2
  have hmw := minusU_wrap (rndX n s hi lo rest) (by omega)
  have HR : Hid (rndX n s hi lo rest = roundP (cutX n s hi lo rest).1 (cutX n s hi lo rest).2) := rfl
  have hle := (roundP_le (cutX n s hi lo rest).1 (cutX n s hi lo rest).2).1
  have hle2 : (cutX n s hi lo rest).1 ≤ rndX n s hi lo rest := hle
  unfold patR
  generalize 2 ^ n - rndX n s hi lo rest = M at *
  generalize minusU (rndX n s hi lo rest) = U at *
  generalize (cutX n s hi lo rest).1 = P at *
  generalize (cutX n s hi lo rest).2 = l at *
  generalize rndX n s hi lo rest = R at *
  unfold exV at *
  rw [e2] at r2
  have hR63 : R < 2 ^ 63 := by omega
  clear hn hs h hneg e1 e2 e3 hle r2 hH
  have hup : (l = 3 ∨ (l = 2 ∧ P % 2 = 1)) → P + 1 = R := fun c => by rw [HR.out]; unfold roundP; rw [if_pos c]
  have hst : ¬ (l = 3 ∨ (l = 2 ∧ P % 2 = 1)) → P = R := fun c => by rw [HR.out]; unfold roundP; rw [if_neg c]
  have ew : IntKind.u64.wrap ((P : Int) + 1) = (P : Int) + 1 := by rw [IntKind.wrap_u64]; omega
  refine cps fun Q hQ => ?_
  by_cases c : l = 3 ∨ (l = 2 ∧ P % 2 = 1)
  · have hP := hup c
    have hc2 : ((P : Int) + 1) = (R : Int) := by omega
    have ew2 : IntKind.u64.wrap ((P : Int) + 1) = (R : Int) := by rw [ew, hc2]
    clear hup hst hP hc2 ew
    rcases c with rfl | ⟨rfl, c⟩
    · cases neg
      · go_enter Try.func17, Try.ntmps17
        go_wp2_with (first
          | (go_at_call 15; refine (k1 _).mono ?_; rintro e w2 ⟨rfl, hb2⟩; have a1 := ((hb2.cell (p := ⟨w.heap.size, 1, none⟩) (by simp)).trans (rowcell (rownew w _ _) 1)); simp only [List.getElem?_toArray, List.getElem?_cons_zero, List.getElem?_cons_succ] at a1; have z1 : w.heap.size < w2.heap.size := (by have := hb2.size; simp at this; omega)))
        exact hQ.out _ _ ⟨rfl, cthen (cmore (Below.refl _ _) _) hb2⟩
      · go_enter Try.func17, Try.ntmps17
        go_wp2_with (first
          | (go_at_call 15; refine (k1 _).mono ?_; rintro e w2 ⟨rfl, hb2⟩; have a1 := ((hb2.cell (p := ⟨w.heap.size, 1, none⟩) (by simp)).trans (rowcell (rownew w _ _) 1)); simp only [List.getElem?_toArray, List.getElem?_cons_zero, List.getElem?_cons_succ] at a1; have z1 : w.heap.size < w2.heap.size := (by have := hb2.size; simp at this; omega))
          | (go_at_call 41; refine (k2 _).mono ?_; rintro e w4 ⟨rfl, hb4⟩))
        exact hQ.out _ _ ⟨rfl, cthen (cthen (cmore (Below.refl _ _) _) hb2) hb4⟩
    · have m2 : (Int.tmod (P : Int) 2) = (P : Int) % 2 := Int.tmod_eq_emod_of_nonneg (by omega)
      have m3 : (P : Int) % 2 = 1 := by omega
      clear c
      cases neg
      · go_enter Try.func17, Try.ntmps17
        go_wp2_with (first
          | (go_at_call 15; refine (k1 _).mono ?_; rintro e w2 ⟨rfl, hb2⟩; have a1 := ((hb2.cell (p := ⟨w.heap.size, 1, none⟩) (by simp)).trans (rowcell (rownew w _ _) 1)); simp only [List.getElem?_toArray, List.getElem?_cons_zero, List.getElem?_cons_succ] at a1; have z1 : w.heap.size < w2.heap.size := (by have := hb2.size; simp at this; omega)))
        exact hQ.out _ _ ⟨rfl, cthen (cmore (Below.refl _ _) _) hb2⟩
      · go_enter Try.func17, Try.ntmps17
        go_wp2_with (first
          | (go_at_call 15; refine (k1 _).mono ?_; rintro e w2 ⟨rfl, hb2⟩; have a1 := ((hb2.cell (p := ⟨w.heap.size, 1, none⟩) (by simp)).trans (rowcell (rownew w _ _) 1)); simp only [List.getElem?_toArray, List.getElem?_cons_zero, List.getElem?_cons_succ] at a1; have z1 : w.heap.size < w2.heap.size := (by have := hb2.size; simp at this; omega))
          | (go_at_call 41; refine (k2 _).mono ?_; rintro e w4 ⟨rfl, hb4⟩))
        exact hQ.out _ _ ⟨rfl, cthen (cthen (cmore (Below.refl _ _) _) hb2) hb4⟩
  · have hP := hst c
    subst hP
    clear hup hst
    have d3 : ((l : Int) == 3) = false := beq_eq_false_iff_ne.2 (by omega)
    by_cases h2 : l = 2
    · subst h2
      have m3 : (P : Int) % 2 = 0 := by omega
      have m2 : (Int.tmod (P : Int) 2) = (P : Int) % 2 := Int.tmod_eq_emod_of_nonneg (by omega)
      clear c
      cases neg
      · go_enter Try.func17, Try.ntmps17
        go_wp2_with (first
          | (go_at_call 15; refine (k1 _).mono ?_; rintro e w2 ⟨rfl, hb2⟩; have a1 := ((hb2.cell (p := ⟨w.heap.size, 1, none⟩) (by simp)).trans (rowcell (rownew w _ _) 1)); simp only [List.getElem?_toArray, List.getElem?_cons_zero, List.getElem?_cons_succ] at a1; have z1 : w.heap.size < w2.heap.size := (by have := hb2.size; simp at this; omega)))
        exact hQ.out _ _ ⟨rfl, cthen (cmore (Below.refl _ _) _) hb2⟩
      · go_enter Try.func17, Try.ntmps17
        go_wp2_with (first
          | (go_at_call 15; refine (k1 _).mono ?_; rintro e w2 ⟨rfl, hb2⟩; have a1 := ((hb2.cell (p := ⟨w.heap.size, 1, none⟩) (by simp)).trans (rowcell (rownew w _ _) 1)); simp only [List.getElem?_toArray, List.getElem?_cons_zero, List.getElem?_cons_succ] at a1; have z1 : w.heap.size < w2.heap.size := (by have := hb2.size; simp at this; omega))
          | (go_at_call 41; refine (k2 _).mono ?_; rintro e w4 ⟨rfl, hb4⟩))
        exact hQ.out _ _ ⟨rfl, cthen (cthen (cmore (Below.refl _ _) _) hb2) hb4⟩
    · have d2 : ((l : Int) == 2) = false := beq_eq_false_iff_ne.2 (by omega)
      clear c h2
      cases neg
      · go_enter Try.func17, Try.ntmps17
        go_wp2_with (first
          | (go_at_call 15; refine (k1 _).mono ?_; rintro e w2 ⟨rfl, hb2⟩; have a1 := ((hb2.cell (p := ⟨w.heap.size, 1, none⟩) (by simp)).trans (rowcell (rownew w _ _) 1)); simp only [List.getElem?_toArray, List.getElem?_cons_zero, List.getElem?_cons_succ] at a1; have z1 : w.heap.size < w2.heap.size := (by have := hb2.size; simp at this; omega)))
        exact hQ.out _ _ ⟨rfl, cthen (cmore (Below.refl _ _) _) hb2⟩
      · go_enter Try.func17, Try.ntmps17
        go_wp2_with (first
          | (go_at_call 15; refine (k1 _).mono ?_; rintro e w2 ⟨rfl, hb2⟩; have a1 := ((hb2.cell (p := ⟨w.heap.size, 1, none⟩) (by simp)).trans (rowcell (rownew w _ _) 1)); simp only [List.getElem?_toArray, List.getElem?_cons_zero, List.getElem?_cons_succ] at a1; have z1 : w.heap.size < w2.heap.size := (by have := hb2.size; simp at this; omega))
          | (go_at_call 41; refine (k2 _).mono ?_; rintro e w4 ⟨rfl, hb4⟩))
        exact hQ.out _ _ ⟨rfl, cthen (cthen (cmore (Below.refl _ _) _) hb2) hb4⟩
end Go.Proofs.Ytajlgpamcpgalaa
