import Derived.Test.YthbhcdokjlpjbaaCodM
import Derived.Test.YthbhcdokjlpjbaaCode
namespace Go.Proofs.Ythbhcdokjlpjbaa
open Go.ChangeShapes Go.WideShapes Go.ChangeAt Go.RowKit
set_option linter.unusedVariables false
set_option linter.unusedSimpArgs false
set_option maxRecDepth 100000

set_option maxHeartbeats 2000000 in
/-- what is refused: no pattern near it means it -/
theorem codecOnly_bad (n k : Int) (neg : Bool) (s : Int) (f : Nat) (y : Nat) (c K : Int) (B : Bool) (S : Int) (F : Nat) (w : World)
    (k1 : ∀ w, Calls Try.prog 17 #[.int .i64 n, .agg #[.int .i64 k, .bool neg, .int .i64 s, .int .u64 f]] w fun e w' => e = .returned (.tuple #[.int .u64 0, codeV c]) ∧ Below w.heap.size w w')
    (k2 : ∀ w, Calls Try.prog 15 #[.int .i64 n, .int .u64 y] w fun e w' => e = .returned (.tuple #[.agg #[.int .i64 K, .bool B, .int .i64 S, .int .u64 F], .nilIface]) ∧ Below w.heap.size w w')
    (hne : ¬ (K = k ∧ B = neg ∧ S = s ∧ F = f)) :
    Calls Try.prog 8 #[.int .i64 n, .agg #[.int .i64 k, .bool neg, .int .i64 s, .int .u64 f], .int .u64 y] w fun e w' => e = .returned (.bool true) ∧ Below w.heap.size w w' := by
  have HNE : Hid (¬ (K = k ∧ B = neg ∧ S = s ∧ F = f)) := hne
  clear hne
  unfold codeV at k1
  refine cps fun Q hQ => ?_
  go_enter Try.func8, Try.ntmps8
  go_wp2_with (first
    | (go_at_call 9; refine (cup_any _).mono ?_; rintro e w1 ⟨rfl, hb1⟩; have RX := (hb1.block w.heap.size (by simp)).trans (rownew w _ _); have z1 : w.heap.size < w1.heap.size := (by have := hb1.size; simp at this; omega); have a0 := rowcell RX 0; have a1 := rowcell RX 1; have a2 := rowcell RX 2; have a3 := rowcell RX 3; have af := rowfree RX; simp only [List.getElem?_toArray, List.getElem?_cons_zero, List.getElem?_cons_succ] at a0 a1 a2 a3; have HRX : Hid _ := RX; have HB1 : Hid (Below _ _ _) := cthen (cmore (Below.refl _ _) _) hb1; clear hb1 RX)
    | (go_at_call 17; refine (k1 _).mono ?_; rintro e w2 ⟨rfl, hb2⟩; have RX2 := (hb2.block w.heap.size z1).trans HRX.out; have z2 : w.heap.size < w2.heap.size := (Nat.lt_of_lt_of_le z1 hb2.size); have HRX2 : Hid _ := RX2; have HB2 : Hid (Below _ _ _) := hb2; clear hb2 RX2)
    | (go_at_call 15; refine (k2 _).mono ?_; rintro e w3 ⟨rfl, hb3⟩; have RX3 := (hb3.block w.heap.size z2).trans HRX2.out; have z3 : w.heap.size < w3.heap.size := (Nat.lt_of_lt_of_le z2 hb3.size); have c0 := rowcell RX3 0; have c1 := rowcell RX3 1; have c2 := rowcell RX3 2; have c3 := rowcell RX3 3; have cf := rowfree RX3; simp only [List.getElem?_toArray, List.getElem?_cons_zero, List.getElem?_cons_succ] at c0 c1 c2 c3; have hne1 : ¬ w.heap.size = w3.heap.size := (by omega); have hne2 : ¬ w3.heap.size = w.heap.size := (by omega); have HB3 : Hid (Below _ _ _) := hb3; clear hb3 RX3))
  all_goals first
    | (refine hQ.out _ _ ⟨?_, cmore (cthen (cthen HB1.out HB2.out) HB3.out) _⟩; simp; done)
    | exact (HNE.out ⟨by first | rfl | assumption | (symm; assumption) | omega, by first | rfl | assumption | (symm; assumption) | omega, by first | rfl | assumption | (symm; assumption) | omega, by first | rfl | assumption | (symm; assumption) | omega⟩).elim
set_option maxHeartbeats 2000000 in
theorem codecOnly_walk (n k : Int) (neg : Bool) (s p q : Int) (wn : (Lit.int .i64 n).wf = true) (w1 : (Lit.int .i64 k).wf = true) (w2 : (Lit.int .i64 s).wf = true) (wp : (Lit.int .u64 p).wf = true) (wq : (Lit.int .u64 q).wf = true) (w : World) :
    Calls Try.prog 8 #[.int .i64 n, .agg #[.int .i64 k, .bool neg, .int .i64 s, .int .u64 p], .int .u64 q] w fun e w' => e = .returned (.bool true) ∧ Below w.heap.size w w' := by
  obtain ⟨f, rfl, hf⟩ := nat_of_u64 wp
  obtain ⟨y, rfl, hy⟩ := nat_of_u64 wq
  clear w1 w2 wp wq
  cases hb : isW n
  · have k1 := fun w => cencode_no n k neg s f hb w
    have k2 := fun w => cdecode_no n y hb w
    simp only [numV, codeV] at k1 k2
    clear hb wn hf hy
    refine cps fun Q hQ => ?_
    go_enter Try.func8, Try.ntmps8
    go_wp2_with (first
      | (go_at_call 9; refine (cup_any _).mono ?_; rintro e w1 ⟨rfl, hb1⟩; have RX := (hb1.block w.heap.size (by simp)).trans (rownew w _ _); have z1 : w.heap.size < w1.heap.size := (by have := hb1.size; simp at this; omega); have a0 := rowcell RX 0; have a1 := rowcell RX 1; have a2 := rowcell RX 2; have a3 := rowcell RX 3; have af := rowfree RX; simp only [List.getElem?_toArray, List.getElem?_cons_zero, List.getElem?_cons_succ] at a0 a1 a2 a3; have HRX : Hid _ := RX; have HB1 : Hid (Below _ _ _) := cthen (cmore (Below.refl _ _) _) hb1; clear hb1 RX)
      | (go_at_call 17; refine (k1 _).mono ?_; rintro e w2 ⟨rfl, hb2⟩; have RX2 := (hb2.block w.heap.size z1).trans HRX.out; have z2 : w.heap.size < w2.heap.size := (Nat.lt_of_lt_of_le z1 hb2.size); have HRX2 : Hid _ := RX2; have HB2 : Hid (Below _ _ _) := hb2; clear hb2 RX2)
      | (go_at_call 15; refine (k2 _).mono ?_; rintro e w3 ⟨rfl, hb3⟩; have RX3 := (hb3.block w.heap.size z2).trans HRX2.out; have z3 : w.heap.size < w3.heap.size := (Nat.lt_of_lt_of_le z2 hb3.size); have c0 := rowcell RX3 0; have c1 := rowcell RX3 1; have c2 := rowcell RX3 2; have c3 := rowcell RX3 3; have cf := rowfree RX3; simp only [List.getElem?_toArray, List.getElem?_cons_zero, List.getElem?_cons_succ] at c0 c1 c2 c3; have hne1 : ¬ w.heap.size = w3.heap.size := (by omega); have hne2 : ¬ w3.heap.size = w.heap.size := (by omega); have HB3 : Hid (Below _ _ _) := hb3; clear hb3 RX3))
    all_goals exact hQ.out _ _ ⟨by simp, cmore (cthen (cthen HB1.out HB2.out) HB3.out) _⟩
  · obtain ⟨m, rfl, hm⟩ := isW_yes hb
    -- what stands near
    have near : ∀ c, soundN k neg s f = false ∨ (k = 1 ∧ (inR m s = false ∨ fitsN m s f = false)) → (∀ w, Calls Try.prog 17 #[.int .i64 m, .agg #[.int .i64 k, .bool neg, .int .i64 s, .int .u64 f]] w fun e w' => e = .returned (.tuple #[.int .u64 0, codeV c]) ∧ Below w.heap.size w w') →
        Calls Try.prog 8 #[.int .i64 m, .agg #[.int .i64 k, .bool neg, .int .i64 s, .int .u64 f], .int .u64 y] w fun e w' => e = .returned (.bool true) ∧ Below w.heap.size w w' := by
      intro c hc k1
      by_cases hk : kindOf m (y % 2 ^ m) = 1
      · obtain ⟨ht, _⟩ := patOf_str m y hm hy hk
        have hl := strS_length m y
        refine codecOnly_bad m k neg s f y c 1 _ _ _ w k1 (fun w => cdecode_real m y hm hy hk w) ?_
        rintro ⟨rfl, rfl, rfl, rfl⟩
        rcases hc with hc | ⟨_, hc | hc⟩
        · rw [sound_home m _ _ hm hl ht] at hc; cases hc
        · rw [inR_of m _ hm hl ht] at hc; cases hc
        · rw [fits_home m _ hm hl ht] at hc; cases hc
      · refine codecOnly_bad m k neg s f y c _ _ _ _ w k1 (fun w => cdecode_other m y hm hy hk w) ?_
        rintro ⟨rfl, rfl, rfl, rfl⟩
        rcases hc with hc | ⟨h1, _⟩
        · rcases kind_cases m _ hk with ⟨h1, _⟩ | ⟨h1, _⟩
          · rw [h1] at hc; exact absurd hc (by decide)
          · rw [h1] at hc; exact absurd hc (by decide)
        · exact hk h1
    cases hs : soundN k neg s f
    · exact near 1 (.inl hs) (fun w => cencode_bad m k neg s f hm hf hs w)
    · rcases sound_cases hs with ⟨rfl, rfl, rfl, rfl⟩ | ⟨rfl, rfl, rfl, rfl⟩ | rfl
      · have k1 := fun w => cencode_zero m hm w
        have h0 : kindOf m (0 % 2 ^ m) = 0 := by rw [Nat.zero_mod]; rfl
        have k2 := fun w => cdecode_other m 0 hm (by decide) (by rw [h0]; decide) w
        rw [h0] at k2
        simp only [numV] at k1 k2
        clear hb wn hf hy hm hs near h0
        refine cps fun Q hQ => ?_
        go_enter Try.func8, Try.ntmps8
        go_wp2_with (first
          | (go_at_call 9; refine (cup_any _).mono ?_; rintro e w1 ⟨rfl, hb1⟩; have RX := (hb1.block w.heap.size (by simp)).trans (rownew w _ _); have z1 : w.heap.size < w1.heap.size := (by have := hb1.size; simp at this; omega); have a0 := rowcell RX 0; have a1 := rowcell RX 1; have a2 := rowcell RX 2; have a3 := rowcell RX 3; have af := rowfree RX; simp only [List.getElem?_toArray, List.getElem?_cons_zero, List.getElem?_cons_succ] at a0 a1 a2 a3; have HRX : Hid _ := RX; have HB1 : Hid (Below _ _ _) := cthen (cmore (Below.refl _ _) _) hb1; clear hb1 RX)
          | (go_at_call 17; refine (k1 _).mono ?_; rintro e w2 ⟨rfl, hb2⟩; have RX2 := (hb2.block w.heap.size z1).trans HRX.out; have z2 : w.heap.size < w2.heap.size := (Nat.lt_of_lt_of_le z1 hb2.size); have HRX2 : Hid _ := RX2; have HB2 : Hid (Below _ _ _) := hb2; clear hb2 RX2)
          | (go_at_call 15; refine (k2 _).mono ?_; rintro e w3 ⟨rfl, hb3⟩; have RX3 := (hb3.block w.heap.size z2).trans HRX2.out; have z3 : w.heap.size < w3.heap.size := (Nat.lt_of_lt_of_le z2 hb3.size); have c0 := rowcell RX3 0; have c1 := rowcell RX3 1; have c2 := rowcell RX3 2; have c3 := rowcell RX3 3; have cf := rowfree RX3; simp only [List.getElem?_toArray, List.getElem?_cons_zero, List.getElem?_cons_succ] at c0 c1 c2 c3; have hne1 : ¬ w.heap.size = w3.heap.size := (by omega); have hne2 : ¬ w3.heap.size = w.heap.size := (by omega); have HB3 : Hid (Below _ _ _) := hb3; clear hb3 RX3))
        all_goals exact hQ.out _ _ ⟨by simp, cmore (cthen (cthen HB1.out HB2.out) HB3.out) _⟩
      · have k1 := fun w => cencode_nar m hm w
        obtain ⟨H, e1, e2, e3, _⟩ := wd_pows hm
        have h2 : kindOf m (2 ^ (m - 1) % 2 ^ m) = 2 := by
          rw [Nat.mod_eq_of_lt (by omega)]
          unfold kindOf
          rw [if_neg (by omega), if_pos rfl]
        have hlt : 2 ^ (m - 1) < 2 ^ 64 := Nat.pow_lt_pow_right (by decide) (by have := wd_le hm; omega)
        have k2 := fun w => cdecode_other m (2 ^ (m - 1)) hm hlt (by rw [h2]; decide) w
        rw [h2] at k2
        simp only [numV] at k1 k2
        clear hb wn hf hy hm hs near h2 hlt e1 e2 e3
        generalize 2 ^ (m - 1) = pp at *
        refine cps fun Q hQ => ?_
        go_enter Try.func8, Try.ntmps8
        go_wp2_with (first
          | (go_at_call 9; refine (cup_any _).mono ?_; rintro e w1 ⟨rfl, hb1⟩; have RX := (hb1.block w.heap.size (by simp)).trans (rownew w _ _); have z1 : w.heap.size < w1.heap.size := (by have := hb1.size; simp at this; omega); have a0 := rowcell RX 0; have a1 := rowcell RX 1; have a2 := rowcell RX 2; have a3 := rowcell RX 3; have af := rowfree RX; simp only [List.getElem?_toArray, List.getElem?_cons_zero, List.getElem?_cons_succ] at a0 a1 a2 a3; have HRX : Hid _ := RX; have HB1 : Hid (Below _ _ _) := cthen (cmore (Below.refl _ _) _) hb1; clear hb1 RX)
          | (go_at_call 17; refine (k1 _).mono ?_; rintro e w2 ⟨rfl, hb2⟩; have RX2 := (hb2.block w.heap.size z1).trans HRX.out; have z2 : w.heap.size < w2.heap.size := (Nat.lt_of_lt_of_le z1 hb2.size); have HRX2 : Hid _ := RX2; have HB2 : Hid (Below _ _ _) := hb2; clear hb2 RX2)
          | (go_at_call 15; refine (k2 _).mono ?_; rintro e w3 ⟨rfl, hb3⟩; have RX3 := (hb3.block w.heap.size z2).trans HRX2.out; have z3 : w.heap.size < w3.heap.size := (Nat.lt_of_lt_of_le z2 hb3.size); have c0 := rowcell RX3 0; have c1 := rowcell RX3 1; have c2 := rowcell RX3 2; have c3 := rowcell RX3 3; have cf := rowfree RX3; simp only [List.getElem?_toArray, List.getElem?_cons_zero, List.getElem?_cons_succ] at c0 c1 c2 c3; have hne1 : ¬ w.heap.size = w3.heap.size := (by omega); have hne2 : ¬ w3.heap.size = w.heap.size := (by omega); have HB3 : Hid (Below _ _ _) := hb3; clear hb3 RX3))
        all_goals exact hQ.out _ _ ⟨by simp, cmore (cthen (cthen HB1.out HB2.out) HB3.out) _⟩
      · by_cases hr : inR m s = true
        · by_cases hfit : fitsN m s f = true
          · have k1 := fun w => cencode_fit m neg s f hm hs hf hr hfit w
            obtain ⟨ht, hl⟩ := cut_true m s f hm hr
            obtain ⟨p1, p2, p3, p4⟩ := patOf_facts m hm neg (cutL m s f) hl ht
            have p1' : patOf m neg (cutL m s f) < 2 ^ 64 := Nat.lt_of_lt_of_le p1 (Nat.pow_le_pow_right (by decide) (wd_le hm).2)
            have k2 := fun w => cdecode_real m _ hm p1' p2 w
            obtain ⟨q1, q2⟩ := of_decide_eq_true hfit
            rw [p3, p4, q1, q2] at k2
            simp only [numV] at k1 k2
            clear hb wn hf hy hm hs near hr hfit ht hl p1 p2 p3 p4 p1' q1 q2
            generalize patOf m neg (cutL m s f) = pp at *
            refine cps fun Q hQ => ?_
            go_enter Try.func8, Try.ntmps8
            go_wp2_with (first
              | (go_at_call 9; refine (cup_any _).mono ?_; rintro e w1 ⟨rfl, hb1⟩; have RX := (hb1.block w.heap.size (by simp)).trans (rownew w _ _); have z1 : w.heap.size < w1.heap.size := (by have := hb1.size; simp at this; omega); have a0 := rowcell RX 0; have a1 := rowcell RX 1; have a2 := rowcell RX 2; have a3 := rowcell RX 3; have af := rowfree RX; simp only [List.getElem?_toArray, List.getElem?_cons_zero, List.getElem?_cons_succ] at a0 a1 a2 a3; have HRX : Hid _ := RX; have HB1 : Hid (Below _ _ _) := cthen (cmore (Below.refl _ _) _) hb1; clear hb1 RX)
              | (go_at_call 17; refine (k1 _).mono ?_; rintro e w2 ⟨rfl, hb2⟩; have RX2 := (hb2.block w.heap.size z1).trans HRX.out; have z2 : w.heap.size < w2.heap.size := (Nat.lt_of_lt_of_le z1 hb2.size); have HRX2 : Hid _ := RX2; have HB2 : Hid (Below _ _ _) := hb2; clear hb2 RX2)
              | (go_at_call 15; refine (k2 _).mono ?_; rintro e w3 ⟨rfl, hb3⟩; have RX3 := (hb3.block w.heap.size z2).trans HRX2.out; have z3 : w.heap.size < w3.heap.size := (Nat.lt_of_lt_of_le z2 hb3.size); have c0 := rowcell RX3 0; have c1 := rowcell RX3 1; have c2 := rowcell RX3 2; have c3 := rowcell RX3 3; have cf := rowfree RX3; simp only [List.getElem?_toArray, List.getElem?_cons_zero, List.getElem?_cons_succ] at c0 c1 c2 c3; have hne1 : ¬ w.heap.size = w3.heap.size := (by omega); have hne2 : ¬ w3.heap.size = w.heap.size := (by omega); have HB3 : Hid (Below _ _ _) := hb3; clear hb3 RX3))
            all_goals exact hQ.out _ _ ⟨by simp, cmore (cthen (cthen HB1.out HB2.out) HB3.out) _⟩
          · have hf2 : fitsN m s f = false := by simpa using hfit
            exact near 8 (.inr ⟨rfl, .inr hf2⟩) (fun w => cencode_not m neg s f hm hs hf (.inr hf2) w)
        · have hr2 : inR m s = false := by simpa using hr
          exact near 8 (.inr ⟨rfl, .inl hr2⟩) (fun w => cencode_not m neg s f hm hs hf (.inl hr2) w)
end Go.Proofs.Ythbhcdokjlpjbaa
