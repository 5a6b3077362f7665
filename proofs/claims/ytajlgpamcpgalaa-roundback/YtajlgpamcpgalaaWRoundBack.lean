import Derived.Test.YtajlgpamcpgalaaJoin4
namespace Go.Proofs.Ytajlgpamcpgalaa
open Go.ChangeShapes Go.WideShapes Go.ChangeAt Go.RowKit
set_option linter.unusedVariables false
set_option linter.unusedSimpArgs false
set_option maxRecDepth 100000

theorem roundBack_walk (n p : Int) (wn : (Lit.int .i64 n).wf = true) (wp : (Lit.int .u64 p).wf = true) (w : World) :
    Calls Try.prog 7 #[.int .i64 n, .int .u64 p] w fun e w' => e = .returned (.bool true) ∧ Below w.heap.size w w' := by
  have he := fun w a b => Lib.run_eql_iface_int (P := Try.prog) w (t := 27) (tx := 51) (k := .i64) a b Try.underlying27 (by kernel_rfl) Try.underlying51
  obtain ⟨x, rfl, hx⟩ := nat_of_u64 wp
  clear wn wp
  refine cps fun Q hQ => ?_
  have k4 := is_width n
  cases hb : isW n
  · have k1 := cdecode_no n x hb
    have k2 := rndof_ok 0 false 0 0 (by decide) rfl
    have k3 := rround_no n 0 false 0 0 0 false (by decide) (by decide) hb
    rw [hb] at k4
    unfold exV numV codeV at *
    rw [show ((0 : Nat) : Int) = 0 from rfl] at *
    clear hb hx
    go_enter Try.func7, Try.ntmps7
    go_wp2_with (first
      | (go_at_call 9; go_must (refine (rup_any _).mono ?_); rintro e w1 ⟨rfl, hb1⟩; have HB1 : Hid (Below _ _ _) := hb1; clear hb1)
      | (go_at_call 19; go_must (refine (k1 _).mono ?_); rintro e w2 ⟨rfl, hb2⟩; have HB2 : Hid (Below _ _ _) := hb2; clear hb2)
      | (go_at_call 13; go_must (refine (k2 _).mono ?_); rintro e w3 ⟨rfl, hb3⟩; have R3_0 := (hb3.block (w2.heap.size) (by first | (simp; done) | (simp; omega) | omega)).trans (rownew' _ _ _ _ (by simp)); have z3_0 : w2.heap.size < w3.heap.size := Nat.lt_of_lt_of_le (by first | (simp; done) | (simp; omega) | omega) hb3.size; have ne3_0 : ¬ w2.heap.size = w3.heap.size := (by omega); have en3_0 : ¬ w3.heap.size = w2.heap.size := (by omega); have c3_0_0 := rowcell R3_0 0; have c3_0_1 := rowcell R3_0 1; have c3_0_2 := rowcell R3_0 2; have c3_0_3 := rowcell R3_0 3; have cf3_0 := rowfree R3_0; simp only [List.getElem?_toArray, List.getElem?_cons_zero, List.getElem?_cons_succ] at c3_0_0 c3_0_1 c3_0_2 c3_0_3; have HR3_0 : Hid _ := R3_0; clear R3_0; have HB3 : Hid (Below _ _ _) := hb3; clear hb3)
      | (go_at_call 17; go_must (refine (k3 _).mono ?_); rintro e w4 ⟨rfl, hb4⟩; have R4_0 := (hb4.block (w2.heap.size) (by first | (simp; done) | (simp; omega) | omega)).trans ((Below.heap_alloc _ _ _ (by first | (simp; done) | (simp; omega) | omega)).trans HR3_0.out); have z4_0 : w2.heap.size < w4.heap.size := Nat.lt_of_lt_of_le (by first | (simp; done) | (simp; omega) | omega) hb4.size; have ne4_0 : ¬ w2.heap.size = w4.heap.size := (by omega); have en4_0 : ¬ w4.heap.size = w2.heap.size := (by omega); have c4_0_0 := rowcell R4_0 0; have c4_0_1 := rowcell R4_0 1; have c4_0_2 := rowcell R4_0 2; have c4_0_3 := rowcell R4_0 3; have cf4_0 := rowfree R4_0; simp only [List.getElem?_toArray, List.getElem?_cons_zero, List.getElem?_cons_succ] at c4_0_0 c4_0_1 c4_0_2 c4_0_3; have HR4_0 : Hid _ := R4_0; clear R4_0; have R4_1 := (hb4.block (w3.heap.size) (by first | (simp; done) | (simp; omega) | omega)).trans (rownew' _ _ _ _ (by simp)); have z4_1 : w3.heap.size < w4.heap.size := Nat.lt_of_lt_of_le (by first | (simp; done) | (simp; omega) | omega) hb4.size; have ne4_1 : ¬ w3.heap.size = w4.heap.size := (by omega); have en4_1 : ¬ w4.heap.size = w3.heap.size := (by omega); have c4_1_0 := rowcell R4_1 0; have c4_1_1 := rowcell R4_1 1; have c4_1_2 := rowcell R4_1 2; have c4_1_3 := rowcell R4_1 3; have c4_1_4 := rowcell R4_1 4; have c4_1_5 := rowcell R4_1 5; have cf4_1 := rowfree R4_1; simp only [List.getElem?_toArray, List.getElem?_cons_zero, List.getElem?_cons_succ] at c4_1_0 c4_1_1 c4_1_2 c4_1_3 c4_1_4 c4_1_5; have HR4_1 : Hid _ := R4_1; clear R4_1; have HB4 : Hid (Below _ _ _) := hb4; clear hb4)
      | (go_at_call 20; go_must (refine (k4 _).mono ?_); rintro e wx ⟨rfl, hwx⟩; rw [hwx]; clear hwx wx))
    all_goals exact hQ.out _ _ ⟨by simp, cthen (cmore (cthen (cmore (cthen (cthen (Below.refl _ _) HB1.out) HB2.out) _) HB3.out) _) HB4.out⟩
  · obtain ⟨m, rfl, hm⟩ := isW_yes hb
    rw [hb] at k4
    have k6 := fold6_any m x hm
    by_cases hk : kindOf m (x % 2 ^ m) = 1
    · have k1 := cdecode_real m x hm hx hk
      obtain ⟨ht, hp⟩ := patOf_str m x hm hx hk
      have hl := strS_length m x
      have hwb := wordL_bounds (strS m x)
      have hso := sound_home m (x.testBit (m - 1)) (strS m x) hm hl ht
      have k2 := rndof_ok 1 (x.testBit (m - 1)) (scaleL (strS m x)) (wordL (strS m x)) hwb.2 hso
      have hsx : soundX 1 (x.testBit (m - 1)) (scaleL (strS m x)) (wordL (strS m x)) 0 false = true := by
        have hr := of_decide_eq_true (inR_of m _ hm hl ht)
        have hw := wd_le hm
        unfold soundX
        rw [if_neg (by decide)]
        exact decide_eq_true ⟨rfl, hwb.1, by omega, by omega⟩
      have k3 := rround_real m (x.testBit (m - 1)) (scaleL (strS m x)) (wordL (strS m x)) 0 false hm hsx (words_of _)
      rw [rnd_home m (strS m x) hm hl ht, show patR m (x.testBit (m - 1)) (numOf (strS m x)) = x % 2 ^ m from hp] at k3
      unfold exV numV at *
      rw [show ((0 : Nat) : Int) = 0 from rfl] at *
      clear hb hx hm hk ht hp hl hwb hso hsx
      generalize wordL (strS m x) = wd at *
      generalize scaleL (strS m x) = s at *
      generalize x.testBit (m - 1) = b at *
      generalize x % 2 ^ m = y at *
      go_enter Try.func7, Try.ntmps7
      go_wp2_with (first
        | (go_at_call 9; go_must (refine (rup_any _).mono ?_); rintro e w1 ⟨rfl, hb1⟩; have HB1 : Hid (Below _ _ _) := hb1; clear hb1)
        | (go_at_call 19; go_must (refine (k1 _).mono ?_); rintro e w2 ⟨rfl, hb2⟩; have HB2 : Hid (Below _ _ _) := hb2; clear hb2)
        | (go_at_call 13; go_must (refine (k2 _).mono ?_); rintro e w3 ⟨rfl, hb3⟩; have R3_0 := (hb3.block (w2.heap.size) (by first | (simp; done) | (simp; omega) | omega)).trans (rownew' _ _ _ _ (by simp)); have z3_0 : w2.heap.size < w3.heap.size := Nat.lt_of_lt_of_le (by first | (simp; done) | (simp; omega) | omega) hb3.size; have ne3_0 : ¬ w2.heap.size = w3.heap.size := (by omega); have en3_0 : ¬ w3.heap.size = w2.heap.size := (by omega); have c3_0_0 := rowcell R3_0 0; have c3_0_1 := rowcell R3_0 1; have c3_0_2 := rowcell R3_0 2; have c3_0_3 := rowcell R3_0 3; have cf3_0 := rowfree R3_0; simp only [List.getElem?_toArray, List.getElem?_cons_zero, List.getElem?_cons_succ] at c3_0_0 c3_0_1 c3_0_2 c3_0_3; have HR3_0 : Hid _ := R3_0; clear R3_0; have HB3 : Hid (Below _ _ _) := hb3; clear hb3)
        | (go_at_call 17; go_must (refine (k3 _).mono ?_); rintro e w4 ⟨rfl, hb4⟩; have R4_0 := (hb4.block (w2.heap.size) (by first | (simp; done) | (simp; omega) | omega)).trans ((Below.heap_alloc _ _ _ (by first | (simp; done) | (simp; omega) | omega)).trans HR3_0.out); have z4_0 : w2.heap.size < w4.heap.size := Nat.lt_of_lt_of_le (by first | (simp; done) | (simp; omega) | omega) hb4.size; have ne4_0 : ¬ w2.heap.size = w4.heap.size := (by omega); have en4_0 : ¬ w4.heap.size = w2.heap.size := (by omega); have c4_0_0 := rowcell R4_0 0; have c4_0_1 := rowcell R4_0 1; have c4_0_2 := rowcell R4_0 2; have c4_0_3 := rowcell R4_0 3; have cf4_0 := rowfree R4_0; simp only [List.getElem?_toArray, List.getElem?_cons_zero, List.getElem?_cons_succ] at c4_0_0 c4_0_1 c4_0_2 c4_0_3; have HR4_0 : Hid _ := R4_0; clear R4_0; have R4_1 := (hb4.block (w3.heap.size) (by first | (simp; done) | (simp; omega) | omega)).trans (rownew' _ _ _ _ (by simp)); have z4_1 : w3.heap.size < w4.heap.size := Nat.lt_of_lt_of_le (by first | (simp; done) | (simp; omega) | omega) hb4.size; have ne4_1 : ¬ w3.heap.size = w4.heap.size := (by omega); have en4_1 : ¬ w4.heap.size = w3.heap.size := (by omega); have c4_1_0 := rowcell R4_1 0; have c4_1_1 := rowcell R4_1 1; have c4_1_2 := rowcell R4_1 2; have c4_1_3 := rowcell R4_1 3; have c4_1_4 := rowcell R4_1 4; have c4_1_5 := rowcell R4_1 5; have cf4_1 := rowfree R4_1; simp only [List.getElem?_toArray, List.getElem?_cons_zero, List.getElem?_cons_succ] at c4_1_0 c4_1_1 c4_1_2 c4_1_3 c4_1_4 c4_1_5; have HR4_1 : Hid _ := R4_1; clear R4_1; have HB4 : Hid (Below _ _ _) := hb4; clear hb4)
        | (go_at_call 20; go_must (refine (k4 _).mono ?_); rintro e wx ⟨rfl, hwx⟩; rw [hwx]; clear hwx wx)
        | (go_at_call 21; go_must (refine (k6 _).mono ?_); rintro e w5 ⟨rfl, hb5⟩; have R5_0 := (hb5.block (w2.heap.size) (by first | (simp; done) | (simp; omega) | omega)).trans HR4_0.out; have z5_0 : w2.heap.size < w5.heap.size := Nat.lt_of_lt_of_le (by first | (simp; done) | (simp; omega) | omega) hb5.size; have ne5_0 : ¬ w2.heap.size = w5.heap.size := (by omega); have en5_0 : ¬ w5.heap.size = w2.heap.size := (by omega); have c5_0_0 := rowcell R5_0 0; have c5_0_1 := rowcell R5_0 1; have c5_0_2 := rowcell R5_0 2; have c5_0_3 := rowcell R5_0 3; have cf5_0 := rowfree R5_0; simp only [List.getElem?_toArray, List.getElem?_cons_zero, List.getElem?_cons_succ] at c5_0_0 c5_0_1 c5_0_2 c5_0_3; have HR5_0 : Hid _ := R5_0; clear R5_0; have R5_1 := (hb5.block (w3.heap.size) (by first | (simp; done) | (simp; omega) | omega)).trans HR4_1.out; have z5_1 : w3.heap.size < w5.heap.size := Nat.lt_of_lt_of_le (by first | (simp; done) | (simp; omega) | omega) hb5.size; have ne5_1 : ¬ w3.heap.size = w5.heap.size := (by omega); have en5_1 : ¬ w5.heap.size = w3.heap.size := (by omega); have c5_1_0 := rowcell R5_1 0; have c5_1_1 := rowcell R5_1 1; have c5_1_2 := rowcell R5_1 2; have c5_1_3 := rowcell R5_1 3; have c5_1_4 := rowcell R5_1 4; have c5_1_5 := rowcell R5_1 5; have cf5_1 := rowfree R5_1; simp only [List.getElem?_toArray, List.getElem?_cons_zero, List.getElem?_cons_succ] at c5_1_0 c5_1_1 c5_1_2 c5_1_3 c5_1_4 c5_1_5; have HR5_1 : Hid _ := R5_1; clear R5_1; have HB5 : Hid (Below _ _ _) := hb5; clear hb5))
      all_goals exact hQ.out _ _ ⟨by simp, cthen (cthen (cmore (cthen (cmore (cthen (cthen (Below.refl _ _) HB1.out) HB2.out) _) HB3.out) _) HB4.out) HB5.out⟩
    · have k1 := cdecode_other m x hm hx hk
      rcases kind_cases m _ hk with ⟨h1, h2⟩ | ⟨h1, h2⟩
      · rw [h1] at k1
        rw [h2] at k6
        have k2 := rndof_ok 0 false 0 0 (by decide) rfl
        have k3 := rround_zero m hm
        unfold exV numV at *
        rw [show ((0 : Nat) : Int) = 0 from rfl] at *
        clear hb hx hm hk h1 h2
        go_enter Try.func7, Try.ntmps7
        go_wp2_with (first
          | (go_at_call 9; go_must (refine (rup_any _).mono ?_); rintro e w1 ⟨rfl, hb1⟩; have HB1 : Hid (Below _ _ _) := hb1; clear hb1)
          | (go_at_call 19; go_must (refine (k1 _).mono ?_); rintro e w2 ⟨rfl, hb2⟩; have HB2 : Hid (Below _ _ _) := hb2; clear hb2)
          | (go_at_call 13; go_must (refine (k2 _).mono ?_); rintro e w3 ⟨rfl, hb3⟩; have R3_0 := (hb3.block (w2.heap.size) (by first | (simp; done) | (simp; omega) | omega)).trans (rownew' _ _ _ _ (by simp)); have z3_0 : w2.heap.size < w3.heap.size := Nat.lt_of_lt_of_le (by first | (simp; done) | (simp; omega) | omega) hb3.size; have ne3_0 : ¬ w2.heap.size = w3.heap.size := (by omega); have en3_0 : ¬ w3.heap.size = w2.heap.size := (by omega); have c3_0_0 := rowcell R3_0 0; have c3_0_1 := rowcell R3_0 1; have c3_0_2 := rowcell R3_0 2; have c3_0_3 := rowcell R3_0 3; have cf3_0 := rowfree R3_0; simp only [List.getElem?_toArray, List.getElem?_cons_zero, List.getElem?_cons_succ] at c3_0_0 c3_0_1 c3_0_2 c3_0_3; have HR3_0 : Hid _ := R3_0; clear R3_0; have HB3 : Hid (Below _ _ _) := hb3; clear hb3)
          | (go_at_call 17; go_must (refine (k3 _).mono ?_); rintro e w4 ⟨rfl, hb4⟩; have R4_0 := (hb4.block (w2.heap.size) (by first | (simp; done) | (simp; omega) | omega)).trans ((Below.heap_alloc _ _ _ (by first | (simp; done) | (simp; omega) | omega)).trans HR3_0.out); have z4_0 : w2.heap.size < w4.heap.size := Nat.lt_of_lt_of_le (by first | (simp; done) | (simp; omega) | omega) hb4.size; have ne4_0 : ¬ w2.heap.size = w4.heap.size := (by omega); have en4_0 : ¬ w4.heap.size = w2.heap.size := (by omega); have c4_0_0 := rowcell R4_0 0; have c4_0_1 := rowcell R4_0 1; have c4_0_2 := rowcell R4_0 2; have c4_0_3 := rowcell R4_0 3; have cf4_0 := rowfree R4_0; simp only [List.getElem?_toArray, List.getElem?_cons_zero, List.getElem?_cons_succ] at c4_0_0 c4_0_1 c4_0_2 c4_0_3; have HR4_0 : Hid _ := R4_0; clear R4_0; have R4_1 := (hb4.block (w3.heap.size) (by first | (simp; done) | (simp; omega) | omega)).trans (rownew' _ _ _ _ (by simp)); have z4_1 : w3.heap.size < w4.heap.size := Nat.lt_of_lt_of_le (by first | (simp; done) | (simp; omega) | omega) hb4.size; have ne4_1 : ¬ w3.heap.size = w4.heap.size := (by omega); have en4_1 : ¬ w4.heap.size = w3.heap.size := (by omega); have c4_1_0 := rowcell R4_1 0; have c4_1_1 := rowcell R4_1 1; have c4_1_2 := rowcell R4_1 2; have c4_1_3 := rowcell R4_1 3; have c4_1_4 := rowcell R4_1 4; have c4_1_5 := rowcell R4_1 5; have cf4_1 := rowfree R4_1; simp only [List.getElem?_toArray, List.getElem?_cons_zero, List.getElem?_cons_succ] at c4_1_0 c4_1_1 c4_1_2 c4_1_3 c4_1_4 c4_1_5; have HR4_1 : Hid _ := R4_1; clear R4_1; have HB4 : Hid (Below _ _ _) := hb4; clear hb4)
          | (go_at_call 20; go_must (refine (k4 _).mono ?_); rintro e wx ⟨rfl, hwx⟩; rw [hwx]; clear hwx wx)
          | (go_at_call 21; go_must (refine (k6 _).mono ?_); rintro e w5 ⟨rfl, hb5⟩; have R5_0 := (hb5.block (w2.heap.size) (by first | (simp; done) | (simp; omega) | omega)).trans HR4_0.out; have z5_0 : w2.heap.size < w5.heap.size := Nat.lt_of_lt_of_le (by first | (simp; done) | (simp; omega) | omega) hb5.size; have ne5_0 : ¬ w2.heap.size = w5.heap.size := (by omega); have en5_0 : ¬ w5.heap.size = w2.heap.size := (by omega); have c5_0_0 := rowcell R5_0 0; have c5_0_1 := rowcell R5_0 1; have c5_0_2 := rowcell R5_0 2; have c5_0_3 := rowcell R5_0 3; have cf5_0 := rowfree R5_0; simp only [List.getElem?_toArray, List.getElem?_cons_zero, List.getElem?_cons_succ] at c5_0_0 c5_0_1 c5_0_2 c5_0_3; have HR5_0 : Hid _ := R5_0; clear R5_0; have R5_1 := (hb5.block (w3.heap.size) (by first | (simp; done) | (simp; omega) | omega)).trans HR4_1.out; have z5_1 : w3.heap.size < w5.heap.size := Nat.lt_of_lt_of_le (by first | (simp; done) | (simp; omega) | omega) hb5.size; have ne5_1 : ¬ w3.heap.size = w5.heap.size := (by omega); have en5_1 : ¬ w5.heap.size = w3.heap.size := (by omega); have c5_1_0 := rowcell R5_1 0; have c5_1_1 := rowcell R5_1 1; have c5_1_2 := rowcell R5_1 2; have c5_1_3 := rowcell R5_1 3; have c5_1_4 := rowcell R5_1 4; have c5_1_5 := rowcell R5_1 5; have cf5_1 := rowfree R5_1; simp only [List.getElem?_toArray, List.getElem?_cons_zero, List.getElem?_cons_succ] at c5_1_0 c5_1_1 c5_1_2 c5_1_3 c5_1_4 c5_1_5; have HR5_1 : Hid _ := R5_1; clear R5_1; have HB5 : Hid (Below _ _ _) := hb5; clear hb5))
        all_goals exact hQ.out _ _ ⟨by simp, cthen (cthen (cmore (cthen (cmore (cthen (cthen (Below.refl _ _) HB1.out) HB2.out) _) HB3.out) _) HB4.out) HB5.out⟩
      · rw [h1] at k1
        rw [h2] at k6
        have k2 := rndof_ok 2 false 0 0 (by decide) rfl
        have k3 := rround_nar m hm
        unfold exV numV at *
        rw [show ((0 : Nat) : Int) = 0 from rfl] at *
        clear hb hx hm hk h1 h2
        generalize 2 ^ (m - 1) = nv at *
        go_enter Try.func7, Try.ntmps7
        go_wp2_with (first
          | (go_at_call 9; go_must (refine (rup_any _).mono ?_); rintro e w1 ⟨rfl, hb1⟩; have HB1 : Hid (Below _ _ _) := hb1; clear hb1)
          | (go_at_call 19; go_must (refine (k1 _).mono ?_); rintro e w2 ⟨rfl, hb2⟩; have HB2 : Hid (Below _ _ _) := hb2; clear hb2)
          | (go_at_call 13; go_must (refine (k2 _).mono ?_); rintro e w3 ⟨rfl, hb3⟩; have R3_0 := (hb3.block (w2.heap.size) (by first | (simp; done) | (simp; omega) | omega)).trans (rownew' _ _ _ _ (by simp)); have z3_0 : w2.heap.size < w3.heap.size := Nat.lt_of_lt_of_le (by first | (simp; done) | (simp; omega) | omega) hb3.size; have ne3_0 : ¬ w2.heap.size = w3.heap.size := (by omega); have en3_0 : ¬ w3.heap.size = w2.heap.size := (by omega); have c3_0_0 := rowcell R3_0 0; have c3_0_1 := rowcell R3_0 1; have c3_0_2 := rowcell R3_0 2; have c3_0_3 := rowcell R3_0 3; have cf3_0 := rowfree R3_0; simp only [List.getElem?_toArray, List.getElem?_cons_zero, List.getElem?_cons_succ] at c3_0_0 c3_0_1 c3_0_2 c3_0_3; have HR3_0 : Hid _ := R3_0; clear R3_0; have HB3 : Hid (Below _ _ _) := hb3; clear hb3)
          | (go_at_call 17; go_must (refine (k3 _).mono ?_); rintro e w4 ⟨rfl, hb4⟩; have R4_0 := (hb4.block (w2.heap.size) (by first | (simp; done) | (simp; omega) | omega)).trans ((Below.heap_alloc _ _ _ (by first | (simp; done) | (simp; omega) | omega)).trans HR3_0.out); have z4_0 : w2.heap.size < w4.heap.size := Nat.lt_of_lt_of_le (by first | (simp; done) | (simp; omega) | omega) hb4.size; have ne4_0 : ¬ w2.heap.size = w4.heap.size := (by omega); have en4_0 : ¬ w4.heap.size = w2.heap.size := (by omega); have c4_0_0 := rowcell R4_0 0; have c4_0_1 := rowcell R4_0 1; have c4_0_2 := rowcell R4_0 2; have c4_0_3 := rowcell R4_0 3; have cf4_0 := rowfree R4_0; simp only [List.getElem?_toArray, List.getElem?_cons_zero, List.getElem?_cons_succ] at c4_0_0 c4_0_1 c4_0_2 c4_0_3; have HR4_0 : Hid _ := R4_0; clear R4_0; have R4_1 := (hb4.block (w3.heap.size) (by first | (simp; done) | (simp; omega) | omega)).trans (rownew' _ _ _ _ (by simp)); have z4_1 : w3.heap.size < w4.heap.size := Nat.lt_of_lt_of_le (by first | (simp; done) | (simp; omega) | omega) hb4.size; have ne4_1 : ¬ w3.heap.size = w4.heap.size := (by omega); have en4_1 : ¬ w4.heap.size = w3.heap.size := (by omega); have c4_1_0 := rowcell R4_1 0; have c4_1_1 := rowcell R4_1 1; have c4_1_2 := rowcell R4_1 2; have c4_1_3 := rowcell R4_1 3; have c4_1_4 := rowcell R4_1 4; have c4_1_5 := rowcell R4_1 5; have cf4_1 := rowfree R4_1; simp only [List.getElem?_toArray, List.getElem?_cons_zero, List.getElem?_cons_succ] at c4_1_0 c4_1_1 c4_1_2 c4_1_3 c4_1_4 c4_1_5; have HR4_1 : Hid _ := R4_1; clear R4_1; have HB4 : Hid (Below _ _ _) := hb4; clear hb4)
          | (go_at_call 20; go_must (refine (k4 _).mono ?_); rintro e wx ⟨rfl, hwx⟩; rw [hwx]; clear hwx wx)
          | (go_at_call 21; go_must (refine (k6 _).mono ?_); rintro e w5 ⟨rfl, hb5⟩; have R5_0 := (hb5.block (w2.heap.size) (by first | (simp; done) | (simp; omega) | omega)).trans HR4_0.out; have z5_0 : w2.heap.size < w5.heap.size := Nat.lt_of_lt_of_le (by first | (simp; done) | (simp; omega) | omega) hb5.size; have ne5_0 : ¬ w2.heap.size = w5.heap.size := (by omega); have en5_0 : ¬ w5.heap.size = w2.heap.size := (by omega); have c5_0_0 := rowcell R5_0 0; have c5_0_1 := rowcell R5_0 1; have c5_0_2 := rowcell R5_0 2; have c5_0_3 := rowcell R5_0 3; have cf5_0 := rowfree R5_0; simp only [List.getElem?_toArray, List.getElem?_cons_zero, List.getElem?_cons_succ] at c5_0_0 c5_0_1 c5_0_2 c5_0_3; have HR5_0 : Hid _ := R5_0; clear R5_0; have R5_1 := (hb5.block (w3.heap.size) (by first | (simp; done) | (simp; omega) | omega)).trans HR4_1.out; have z5_1 : w3.heap.size < w5.heap.size := Nat.lt_of_lt_of_le (by first | (simp; done) | (simp; omega) | omega) hb5.size; have ne5_1 : ¬ w3.heap.size = w5.heap.size := (by omega); have en5_1 : ¬ w5.heap.size = w3.heap.size := (by omega); have c5_1_0 := rowcell R5_1 0; have c5_1_1 := rowcell R5_1 1; have c5_1_2 := rowcell R5_1 2; have c5_1_3 := rowcell R5_1 3; have c5_1_4 := rowcell R5_1 4; have c5_1_5 := rowcell R5_1 5; have cf5_1 := rowfree R5_1; simp only [List.getElem?_toArray, List.getElem?_cons_zero, List.getElem?_cons_succ] at c5_1_0 c5_1_1 c5_1_2 c5_1_3 c5_1_4 c5_1_5; have HR5_1 : Hid _ := R5_1; clear R5_1; have HB5 : Hid (Below _ _ _) := hb5; clear hb5))
        all_goals exact hQ.out _ _ ⟨by simp, cthen (cthen (cmore (cthen (cmore (cthen (cthen (Below.refl _ _) HB1.out) HB2.out) _) HB3.out) _) HB4.out) HB5.out⟩
end Go.Proofs.Ytajlgpamcpgalaa
