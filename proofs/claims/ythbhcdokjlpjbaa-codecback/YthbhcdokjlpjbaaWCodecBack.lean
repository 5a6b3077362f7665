import Derived.Test.YthbhcdokjlpjbaaCodM
import Derived.Test.YthbhcdokjlpjbaaCode
namespace Go.Proofs.Ythbhcdokjlpjbaa
open Go.ChangeShapes Go.WideShapes Go.ChangeAt Go.RowKit
set_option linter.unusedVariables false
set_option linter.unusedSimpArgs false
set_option maxRecDepth 100000

set_option maxHeartbeats 2000000 in
theorem codecBack_walk (n p : Int) (wn : (Lit.int .i64 n).wf = true) (wp : (Lit.int .u64 p).wf = true) (w : World) :
    Calls Try.prog 7 #[.int .i64 n, .int .u64 p] w fun e w' => e = .returned (.bool true) ∧ Below w.heap.size w w' := by
  have he := fun w a b => Lib.run_eql_iface_int (P := Try.prog) w (t := 27) (tx := 49) (k := .i64) a b Try.underlying27 (by kernel_rfl) Try.underlying49
  obtain ⟨x, rfl, hx⟩ := nat_of_u64 wp
  refine cps fun Q hQ => ?_
  have k4 := fun w => is_width n w
  cases hb : isW n
  · have k1 := fun w => cdecode_no n x hb w
    have k2 := fun w => cencode_no n 0 false 0 0 hb w
    have k3 := fun w => csplit_no n x hb w
    rw [hb] at k4
    simp only [numV, fd0, codeV] at k1 k2 k3
    clear hb wn wp hx
    go_enter Try.func7, Try.ntmps7
    go_wp2_with (first
      | (go_at_call 9; refine (cup_any _).mono ?_; rintro e w1 ⟨rfl, hb1⟩; have HB1 : Hid (Below _ _ _) := hb1; clear hb1)
      | (go_at_call 15; refine (k1 _).mono ?_; rintro e w2 ⟨rfl, hb2⟩; have HB2 : Hid (Below _ _ _) := hb2; clear hb2)
      | (go_at_call 17; refine (k2 _).mono ?_; rintro e w3 ⟨rfl, hb3⟩; have RX := (hb3.block w2.heap.size (by simp)).trans (rownew w2 _ _); have z3 : w2.heap.size < w3.heap.size := (by have := hb3.size; simp at this; omega); have HRX : Hid _ := RX; have HB3 : Hid (Below _ _ _) := hb3; clear RX hb3)
      | (go_at_call 10; refine (k3 _).mono ?_; rintro e w4 ⟨rfl, hb4⟩; have RX4 := (hb4.block w2.heap.size z3).trans HRX.out; have z4 : w2.heap.size < w4.heap.size := (Nat.lt_of_lt_of_le z3 hb4.size); have HRX4 : Hid _ := RX4; have HB4 : Hid (Below _ _ _) := hb4; clear RX4 hb4)
      | (go_at_call 19; refine (k4 _).mono ?_; rintro e w' ⟨rfl, hw⟩; rw [hw]; clear hw w'))
    exact hQ.out _ _ ⟨by simp, cmore (cthen (cthen (cmore (cthen HB1.out HB2.out) _) HB3.out) HB4.out) _⟩
  · obtain ⟨m, rfl, hm⟩ := isW_yes hb
    rw [hb] at k4
    have k5 := fun w => fold6_any m x hm w
    by_cases hk : kindOf m (x % 2 ^ m) = 1
    · have k1 := fun w => cdecode_real m x hm hx hk w
      have k3 := fun w => csplit_real m x hm hx hk w
      obtain ⟨ht, hp⟩ := patOf_str m x hm hx hk
      have hl := strS_length m x
      have hwb := wordL_bounds (strS m x)
      have k2 := fun w => cencode_fit m (x.testBit (m - 1)) (scaleL (strS m x)) (wordL (strS m x)) hm (sound_home m _ _ hm hl ht) hwb.2 (inR_of m _ hm hl ht) (fits_home m _ hm hl ht) w
      rw [cut_home m _ hm hl ht, hp] at k2
      have k6 := fun w => cjoin_yes m (x.testBit (m - 1)) (strS m x) hm hl ht w
      rw [hp] at k6
      have hex : expL (strS m x) < 4 := by
        have := numOf_lt ((restL (strS m x) ++ noughts 2).take 2)
        rw [show ((restL (strS m x) ++ noughts 2).take 2).length = 2 by simp] at this
        exact this
      have hrg : -64 ≤ regL (strS m x) ∧ regL (strS m x) ≤ 64 := by
        have := runL_le (strS m x)
        have := wd_le hm
        unfold regL; split <;> omega
      simp only [numV, fdV, scaleL] at k1 k2 k3 k6
      clear hb wn wp hx hm hk ht hp hl hwb
      generalize wordL (strS m x) = wd at *
      generalize onesL (strS m x) = o at *
      generalize ((runL (strS m x) : Nat) : Int) = r at *
      generalize regL (strS m x) = reg at *
      generalize ((min (restL (strS m x)).length 2 : Nat) : Int) = eb at *
      generalize expL (strS m x) = ex at *
      generalize (((restL (strS m x)).length - 2 : Nat) : Int) = fb at *
      generalize fracL (strS m x) = fr at *
      generalize x.testBit (m - 1) = b at *
      generalize x % 2 ^ m = y at *
      go_enter Try.func7, Try.ntmps7
      go_wp2_with (first
        | (go_at_call 9; refine (cup_any _).mono ?_; rintro e w1 ⟨rfl, hb1⟩; have HB1 : Hid (Below _ _ _) := hb1; clear hb1)
        | (go_at_call 15; refine (k1 _).mono ?_; rintro e w2 ⟨rfl, hb2⟩; have HB2 : Hid (Below _ _ _) := hb2; clear hb2)
        | (go_at_call 17; refine (k2 _).mono ?_; rintro e w3 ⟨rfl, hb3⟩; have RX := (hb3.block w2.heap.size (by simp)).trans (rownew w2 _ _); have z3 : w2.heap.size < w3.heap.size := (by have := hb3.size; simp at this; omega); have HRX : Hid _ := RX; have HB3 : Hid (Below _ _ _) := hb3; clear RX hb3)
        | (go_at_call 10; refine (k3 _).mono ?_; rintro e w4 ⟨rfl, hb4⟩; have RX4 := (hb4.block w2.heap.size z3).trans HRX.out; have z4 : w2.heap.size < w4.heap.size := (Nat.lt_of_lt_of_le z3 hb4.size); have HRX4 : Hid _ := RX4; have HB4 : Hid (Below _ _ _) := hb4; clear RX4 hb4)
        | (go_at_call 19; refine (k4 _).mono ?_; rintro e w' ⟨rfl, hw⟩; rw [hw]; clear hw w')
        | (go_at_call 20; refine (k5 _).mono ?_; rintro e w5 ⟨rfl, hb5⟩; have RX5 := (hb5.block w2.heap.size (by simp; omega)).trans ((Below.heap_alloc w4 _ _ z4).trans HRX4.out); have RG5 := (hb5.block w4.heap.size (by simp)).trans (rownew w4 _ _); have z5 : w4.heap.size < w5.heap.size := (by have := hb5.size; simp at this; omega); have g0 := rowcell RG5 0; have g1 := rowcell RG5 1; have g2 := rowcell RG5 2; have g3 := rowcell RG5 3; have g4 := rowcell RG5 4; have g5 := rowcell RG5 5; have g6 := rowcell RG5 6; have g7 := rowcell RG5 7; have gf := rowfree RG5; simp only [List.getElem?_toArray, List.getElem?_cons_zero, List.getElem?_cons_succ] at g0 g1 g2 g3 g4 g5 g6 g7; have HRX5 : Hid _ := RX5; have HRG5 : Hid _ := RG5; have HB5 : Hid (Below _ _ _) := hb5; clear RX5 RG5 hb5)
        | (go_at_call 13; refine (k6 _).mono ?_; rintro e w6 ⟨rfl, hb6⟩; have RX6 := (hb6.block w2.heap.size (Nat.lt_trans z4 z5)).trans HRX5.out; have RG6 := (hb6.block w4.heap.size z5).trans HRG5.out; have x0 := rowcell RX6 0; have x1 := rowcell RX6 1; have x2 := rowcell RX6 2; have x3 := rowcell RX6 3; have xf := rowfree RX6; simp only [List.getElem?_toArray, List.getElem?_cons_zero, List.getElem?_cons_succ] at x0 x1 x2 x3; have y0 := rowcell RG6 0; have y1 := rowcell RG6 1; have y2 := rowcell RG6 2; have y3 := rowcell RG6 3; have y4 := rowcell RG6 4; have y5 := rowcell RG6 5; have y6 := rowcell RG6 6; have y7 := rowcell RG6 7; have yf := rowfree RG6; simp only [List.getElem?_toArray, List.getElem?_cons_zero, List.getElem?_cons_succ] at y0 y1 y2 y3 y4 y5 y6 y7; have HB6 : Hid (Below _ _ _) := hb6; clear RX6 RG6 hb6))
      all_goals exact hQ.out _ _ ⟨by simp, cthen (cthen (cmore (cthen (cthen (cmore (cthen HB1.out HB2.out) _) HB3.out) HB4.out) _) HB5.out) HB6.out⟩
    · have k1 := fun w => cdecode_other m x hm hx hk w
      have k3 := fun w => csplit_other m x hm hx hk w
      have k6 := fun w => cjoin_bad m false false 0 0 0 0 0 0 hm (by decide) (fun t h1 h2 => parts_none m t hm h1 h2) w
      rcases kind_cases m _ hk with ⟨h1, h2⟩ | ⟨h1, h2⟩
      · have k2 := fun w => cencode_zero m hm w
        rw [h1] at k1
        rw [h2] at k5
        simp only [numV, fd0, fdI, codeV] at k1 k2 k3 k6
        clear hb wn wp hx hm hk h1 h2
        go_enter Try.func7, Try.ntmps7
        go_wp2_with (first
          | (go_at_call 9; refine (cup_any _).mono ?_; rintro e w1 ⟨rfl, hb1⟩; have HB1 : Hid (Below _ _ _) := hb1; clear hb1)
          | (go_at_call 15; refine (k1 _).mono ?_; rintro e w2 ⟨rfl, hb2⟩; have HB2 : Hid (Below _ _ _) := hb2; clear hb2)
          | (go_at_call 17; refine (k2 _).mono ?_; rintro e w3 ⟨rfl, hb3⟩; have RX := (hb3.block w2.heap.size (by simp)).trans (rownew w2 _ _); have z3 : w2.heap.size < w3.heap.size := (by have := hb3.size; simp at this; omega); have HRX : Hid _ := RX; have HB3 : Hid (Below _ _ _) := hb3; clear RX hb3)
          | (go_at_call 10; refine (k3 _).mono ?_; rintro e w4 ⟨rfl, hb4⟩; have RX4 := (hb4.block w2.heap.size z3).trans HRX.out; have z4 : w2.heap.size < w4.heap.size := (Nat.lt_of_lt_of_le z3 hb4.size); have HRX4 : Hid _ := RX4; have HB4 : Hid (Below _ _ _) := hb4; clear RX4 hb4)
          | (go_at_call 19; refine (k4 _).mono ?_; rintro e w' ⟨rfl, hw⟩; rw [hw]; clear hw w')
          | (go_at_call 20; refine (k5 _).mono ?_; rintro e w5 ⟨rfl, hb5⟩; have RX5 := (hb5.block w2.heap.size (by simp; omega)).trans ((Below.heap_alloc w4 _ _ z4).trans HRX4.out); have RG5 := (hb5.block w4.heap.size (by simp)).trans (rownew w4 _ _); have z5 : w4.heap.size < w5.heap.size := (by have := hb5.size; simp at this; omega); have g0 := rowcell RG5 0; have g1 := rowcell RG5 1; have g2 := rowcell RG5 2; have g3 := rowcell RG5 3; have g4 := rowcell RG5 4; have g5 := rowcell RG5 5; have g6 := rowcell RG5 6; have g7 := rowcell RG5 7; have gf := rowfree RG5; simp only [List.getElem?_toArray, List.getElem?_cons_zero, List.getElem?_cons_succ] at g0 g1 g2 g3 g4 g5 g6 g7; have HRX5 : Hid _ := RX5; have HRG5 : Hid _ := RG5; have HB5 : Hid (Below _ _ _) := hb5; clear RX5 RG5 hb5)
          | (go_at_call 13; refine (k6 _).mono ?_; rintro e w6 ⟨rfl, hb6⟩; have RX6 := (hb6.block w2.heap.size (Nat.lt_trans z4 z5)).trans HRX5.out; have RG6 := (hb6.block w4.heap.size z5).trans HRG5.out; have x0 := rowcell RX6 0; have x1 := rowcell RX6 1; have x2 := rowcell RX6 2; have x3 := rowcell RX6 3; have xf := rowfree RX6; simp only [List.getElem?_toArray, List.getElem?_cons_zero, List.getElem?_cons_succ] at x0 x1 x2 x3; have y0 := rowcell RG6 0; have y1 := rowcell RG6 1; have y2 := rowcell RG6 2; have y3 := rowcell RG6 3; have y4 := rowcell RG6 4; have y5 := rowcell RG6 5; have y6 := rowcell RG6 6; have y7 := rowcell RG6 7; have yf := rowfree RG6; simp only [List.getElem?_toArray, List.getElem?_cons_zero, List.getElem?_cons_succ] at y0 y1 y2 y3 y4 y5 y6 y7; have HB6 : Hid (Below _ _ _) := hb6; clear RX6 RG6 hb6))
        all_goals exact hQ.out _ _ ⟨by simp, cthen (cthen (cmore (cthen (cthen (cmore (cthen HB1.out HB2.out) _) HB3.out) HB4.out) _) HB5.out) HB6.out⟩
      · have k2 := fun w => cencode_nar m hm w
        rw [h1] at k1
        rw [h2] at k5
        simp only [numV, fd0, fdI, codeV] at k1 k2 k3 k6
        clear hb wn wp hx hm hk h1 h2
        generalize 2 ^ (m - 1) = pp at *
        go_enter Try.func7, Try.ntmps7
        go_wp2_with (first
          | (go_at_call 9; refine (cup_any _).mono ?_; rintro e w1 ⟨rfl, hb1⟩; have HB1 : Hid (Below _ _ _) := hb1; clear hb1)
          | (go_at_call 15; refine (k1 _).mono ?_; rintro e w2 ⟨rfl, hb2⟩; have HB2 : Hid (Below _ _ _) := hb2; clear hb2)
          | (go_at_call 17; refine (k2 _).mono ?_; rintro e w3 ⟨rfl, hb3⟩; have RX := (hb3.block w2.heap.size (by simp)).trans (rownew w2 _ _); have z3 : w2.heap.size < w3.heap.size := (by have := hb3.size; simp at this; omega); have HRX : Hid _ := RX; have HB3 : Hid (Below _ _ _) := hb3; clear RX hb3)
          | (go_at_call 10; refine (k3 _).mono ?_; rintro e w4 ⟨rfl, hb4⟩; have RX4 := (hb4.block w2.heap.size z3).trans HRX.out; have z4 : w2.heap.size < w4.heap.size := (Nat.lt_of_lt_of_le z3 hb4.size); have HRX4 : Hid _ := RX4; have HB4 : Hid (Below _ _ _) := hb4; clear RX4 hb4)
          | (go_at_call 19; refine (k4 _).mono ?_; rintro e w' ⟨rfl, hw⟩; rw [hw]; clear hw w')
          | (go_at_call 20; refine (k5 _).mono ?_; rintro e w5 ⟨rfl, hb5⟩; have RX5 := (hb5.block w2.heap.size (by simp; omega)).trans ((Below.heap_alloc w4 _ _ z4).trans HRX4.out); have RG5 := (hb5.block w4.heap.size (by simp)).trans (rownew w4 _ _); have z5 : w4.heap.size < w5.heap.size := (by have := hb5.size; simp at this; omega); have g0 := rowcell RG5 0; have g1 := rowcell RG5 1; have g2 := rowcell RG5 2; have g3 := rowcell RG5 3; have g4 := rowcell RG5 4; have g5 := rowcell RG5 5; have g6 := rowcell RG5 6; have g7 := rowcell RG5 7; have gf := rowfree RG5; simp only [List.getElem?_toArray, List.getElem?_cons_zero, List.getElem?_cons_succ] at g0 g1 g2 g3 g4 g5 g6 g7; have HRX5 : Hid _ := RX5; have HRG5 : Hid _ := RG5; have HB5 : Hid (Below _ _ _) := hb5; clear RX5 RG5 hb5)
          | (go_at_call 13; refine (k6 _).mono ?_; rintro e w6 ⟨rfl, hb6⟩; have RX6 := (hb6.block w2.heap.size (Nat.lt_trans z4 z5)).trans HRX5.out; have RG6 := (hb6.block w4.heap.size z5).trans HRG5.out; have x0 := rowcell RX6 0; have x1 := rowcell RX6 1; have x2 := rowcell RX6 2; have x3 := rowcell RX6 3; have xf := rowfree RX6; simp only [List.getElem?_toArray, List.getElem?_cons_zero, List.getElem?_cons_succ] at x0 x1 x2 x3; have y0 := rowcell RG6 0; have y1 := rowcell RG6 1; have y2 := rowcell RG6 2; have y3 := rowcell RG6 3; have y4 := rowcell RG6 4; have y5 := rowcell RG6 5; have y6 := rowcell RG6 6; have y7 := rowcell RG6 7; have yf := rowfree RG6; simp only [List.getElem?_toArray, List.getElem?_cons_zero, List.getElem?_cons_succ] at y0 y1 y2 y3 y4 y5 y6 y7; have HB6 : Hid (Below _ _ _) := hb6; clear RX6 RG6 hb6))
        all_goals exact hQ.out _ _ ⟨by simp, cthen (cthen (cmore (cthen (cthen (cmore (cthen HB1.out HB2.out) _) HB3.out) HB4.out) _) HB5.out) HB6.out⟩
end Go.Proofs.Ythbhcdokjlpjbaa
