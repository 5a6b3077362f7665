import Derived.Test.YtllahgcifichbaaJoin6
import Derived.Test.YtllahgcifichbaaJoin7
namespace Go.Proofs.Ytllahgcifichbaa
open Go.ChangeShapes Go.WideShapes Go.ChangeAt Go.RowKit
set_option linter.unusedVariables false
set_option linter.unusedSimpArgs false
set_option maxRecDepth 100000

set_option maxHeartbeats 4000000 in
theorem rootSquares_walk (n ia : Int) (wn : (Lit.int .i64 n).wf = true) (wa : (Lit.int .u64 ia).wf = true) (w : World) :
    Calls Try.prog 5 #[.int .i64 n, .int .u64 ia] w fun e w' => e = .returned (.bool true) ∧ Below w.heap.size w w' := by
  have he := fun w a b => Lib.run_eql_iface_int (P := Try.prog) w (t := 27) (tx := 41) (k := .i64) a b Try.underlying27 (by kernel_rfl) Try.underlying41
  have hnl := nil_not_code
  obtain ⟨a, rfl, ha⟩ := nat_of_u64 wa
  clear wn wa
  refine cps fun Q hQ => ?_
  have kis := is_width n
  cases hisw : isW n
  · have k1 := pmul_no n a a hisw
    have k2 := rootq_no n 0 hisw
    rw [show ((0 : Nat) : Int) = 0 from rfl] at k2
    rw [hisw] at kis
    unfold codeV at *
    clear hisw ha
    go_enter Try.func5, Try.ntmps5
    go_wp2_with (first
      | (go_at_call 11; go_must (refine (k2 _).mono ?_); rintro e w3 ⟨rfl, hb3⟩; have HB3 : Hid (Below _ _ _) := hb3; clear hb3)
      | (go_at_call 14; go_must (refine (k1 _).mono ?_); rintro e w2 ⟨rfl, hb2⟩; have HB2 : Hid (Below _ _ _) := hb2; clear hb2)
      | (go_at_call 13; go_must (refine (kis _).mono ?_); rintro e wx ⟨rfl, hwx⟩; rw [hwx]; clear hwx wx)
      | (go_at_call 7; go_must (refine (rootup_any _).mono ?_); rintro e w1 ⟨rfl, hb1⟩; have HB1 : Hid (Below _ _ _) := hb1; clear hb1))
    all_goals exact hQ.out _ _ ⟨by first | rfl | simp, cthen (cthen (cthen (Below.refl _ _) HB1.out) HB2.out) HB3.out⟩
  · obtain ⟨m, rfl, hm⟩ := isW_yes hisw
    rw [hisw] at kis
    have hw := wd_le hm
    have k1 := pmul_ok m a a hm ha ha
    have hpl := lt64_of hm (patP_lt m a a hm)
    have k2 := rootq_ok m (patP m a a) hm hpl
    have kd := decode6_v m a hm ha
    by_cases ka : vK m a = 2
    · rw [patP_nar m a a (.inl ka)] at k1 k2
      have hz : 2 ^ (m - 1) ≤ 2 ^ (m - 1) % 2 ^ m := by
        obtain ⟨H, p1, p2, p3, _⟩ := wd_pows hm
        rw [p1, p2, Nat.mod_eq_of_lt (by omega)]
        exact Nat.le_refl _
      rw [patT2_nar m _ hm (by have := two_pow_lt hm; omega) hz] at k2
      have kp := power_sub m (by omega) hw.2
      have q1 : IntKind.i64.wrap ((m : Int) - 1) = (m : Int) - 1 := wrapI (by omega)
      obtain ⟨e1, e2, e3⟩ := v_other m a (by rw [ka]; decide)
      rw [ka, e1, e2, e3] at kd
      unfold numV at kd
      rw [show ((0 : Nat) : Int) = 0 from rfl] at kd
      clear hisw hm ha hpl hw hz ka e1 e2 e3
      generalize 2 ^ (m - 1) = nar at *
      go_enter Try.func5, Try.ntmps5
      go_wp2_with (first
        | (go_at_call 15; go_must (refine (kd _).mono ?_); rintro e w4 ⟨rfl, hb4⟩; have HB4 : Hid (Below _ _ _) := hb4; clear hb4)
        | (go_at_call 16; go_must (refine (kp _).mono ?_); rintro e wx ⟨rfl, hwx⟩; rw [hwx]; clear hwx wx)
        | (go_at_call 11; go_must (refine (k2 _).mono ?_); rintro e w3 ⟨rfl, hb3⟩; have HB3 : Hid (Below _ _ _) := hb3; clear hb3)
        | (go_at_call 14; go_must (refine (k1 _).mono ?_); rintro e w2 ⟨rfl, hb2⟩; have HB2 : Hid (Below _ _ _) := hb2; clear hb2)
        | (go_at_call 13; go_must (refine (kis _).mono ?_); rintro e wx ⟨rfl, hwx⟩; rw [hwx]; clear hwx wx)
        | (go_at_call 7; go_must (refine (rootup_any _).mono ?_); rintro e w1 ⟨rfl, hb1⟩; have HB1 : Hid (Below _ _ _) := hb1; clear hb1))
      all_goals exact hQ.out _ _ ⟨by first | rfl | simp, cmore (cthen (cthen (cthen (cthen (Below.refl _ _) HB1.out) HB2.out) HB3.out) HB4.out) _⟩
    · have hsn := sound_v m a hm ha
      have hfl : vF m a < 2 ^ 64 := by
        by_cases k1' : vK m a = 1
        · exact (v_real m a hm ha k1').2.2.2.2.2.2.1.hi64
        · rw [(v_other m a k1').2.2]; decide
      have ke := exact10_ok (vK m a) (vB m a) (vS m a) (vF m a) (vK m a) (vB m a) (vS m a) (vF m a) hfl hfl hsn hsn
      have kdp := decode6_v m (patP m a a) hm hpl
      have ko := of7_ok (vK m (patP m a a)) (vB m (patP m a a)) (vS m (patP m a a)) (vF m (patP m a a)) (sound_v m (patP m a a) hm hpl)
      have kb := abs8_ok m a hm ha
      have hsq := square_back m a (patP m a a) hm ha hpl ka
      obtain ⟨K, B, S, H, L, R, hform⟩ : ∃ K B S H L R, prod10 (vK m a) (vB m a) (vS m a) (vF m a) (vK m a) (vB m a) (vS m a) (vF m a) = exV K B S H L R := by
        unfold prod10
        split
        · exact ⟨_, _, _, _, _, _, rfl⟩
        · split
          · exact ⟨_, _, _, _, _, _, rfl⟩
          · exact exactV_form _ _ _ _
      rw [hform] at ke hsq
      have d0 : (vK m a == 2) = false := beq_eq_false_iff_ne.2 ka
      by_cases heq : exV (vK m (patP m a a)) (vB m (patP m a a)) (vS m (patP m a a)) (vF m (patP m a a)) 0 false = exV K B S H L R
      · have hab := hsq heq
        rw [hab] at k2
        rw [← heq] at ke
        clear heq hsq hab hform hisw hm ha hpl hw ka hsn hfl
        unfold numV exV at *
        rw [show ((0 : Nat) : Int) = 0 from rfl] at *
        generalize vK m (patP m a a) = K1 at *
        generalize vB m (patP m a a) = B1 at *
        generalize vS m (patP m a a) = S1 at *
        generalize vF m (patP m a a) = F1 at *
        generalize patP m a a = P at *
        generalize vK m a = K0 at *
        generalize vB m a = B0 at *
        generalize vS m a = S0 at *
        generalize vF m a = F0 at *
        generalize absO m a = AB at *
        go_enter Try.func5, Try.ntmps5
        go_wp2_with (first
          | (go_at_call 15; have chk := HB5; go_must (refine (kdp _).mono ?_); rintro e w6 ⟨rfl, hb6⟩; have R6_0 := (hb6.block (w4.heap.size) (by first | (simp; done) | (simp; omega) | omega)).trans ((Below.heap_alloc _ _ _ (by first | (simp; done) | (simp; omega) | omega)).trans HR5_0.out); have z6_0 : w4.heap.size < w6.heap.size := Nat.lt_of_lt_of_le (by first | (simp; done) | (simp; omega) | omega) hb6.size; have HR6_0 : Hid _ := R6_0; clear R6_0; have R6_1 := (hb6.block (w5.heap.size) (by first | (simp; done) | (simp; omega) | omega)).trans (rownew' _ _ _ _ (by simp)); have z6_1 : w5.heap.size < w6.heap.size := Nat.lt_of_lt_of_le (by first | (simp; done) | (simp; omega) | omega) hb6.size; have c6_1_0 := rowcell R6_1 0; have c6_1_1 := rowcell R6_1 1; have c6_1_2 := rowcell R6_1 2; have c6_1_3 := rowcell R6_1 3; have c6_1_4 := rowcell R6_1 4; have c6_1_5 := rowcell R6_1 5; simp only [List.getElem?_toArray, List.getElem?_cons_zero, List.getElem?_cons_succ] at c6_1_0 c6_1_1 c6_1_2 c6_1_3 c6_1_4 c6_1_5; have HR6_1 : Hid _ := R6_1; clear R6_1; have HB6 : Hid (Below _ _ _) := hb6; clear hb6; clear chk)
          | (go_at_call 15; go_must (refine (kd _).mono ?_); rintro e w4 ⟨rfl, hb4⟩; have HB4 : Hid (Below _ _ _) := hb4; clear hb4)
          | (go_at_call 17; go_must (refine (ke _).mono ?_); rintro e w5 ⟨rfl, hb5⟩; have R5_0 := (hb5.block (w4.heap.size) (by first | (simp; done) | (simp; omega) | omega)).trans (rownew' _ _ _ _ (by simp)); have z5_0 : w4.heap.size < w5.heap.size := Nat.lt_of_lt_of_le (by first | (simp; done) | (simp; omega) | omega) hb5.size; have c5_0_0 := rowcell R5_0 0; have c5_0_1 := rowcell R5_0 1; have c5_0_2 := rowcell R5_0 2; have c5_0_3 := rowcell R5_0 3; simp only [List.getElem?_toArray, List.getElem?_cons_zero, List.getElem?_cons_succ] at c5_0_0 c5_0_1 c5_0_2 c5_0_3; have HR5_0 : Hid _ := R5_0; clear R5_0; have HB5 : Hid (Below _ _ _) := hb5; clear hb5)
          | (go_at_call 18; go_must (refine (ko _).mono ?_); rintro e w7 ⟨rfl, hb7⟩; have R7_0 := (hb7.block (w4.heap.size) (by first | (simp; done) | (simp; omega) | omega)).trans HR6_0.out; have z7_0 : w4.heap.size < w7.heap.size := Nat.lt_of_lt_of_le (by first | (simp; done) | (simp; omega) | omega) hb7.size; have HR7_0 : Hid _ := R7_0; clear R7_0; have R7_1 := (hb7.block (w5.heap.size) (by first | (simp; done) | (simp; omega) | omega)).trans HR6_1.out; have z7_1 : w5.heap.size < w7.heap.size := Nat.lt_of_lt_of_le (by first | (simp; done) | (simp; omega) | omega) hb7.size; have c7_1_0 := rowcell R7_1 0; have c7_1_1 := rowcell R7_1 1; have c7_1_2 := rowcell R7_1 2; have c7_1_3 := rowcell R7_1 3; have c7_1_4 := rowcell R7_1 4; have c7_1_5 := rowcell R7_1 5; simp only [List.getElem?_toArray, List.getElem?_cons_zero, List.getElem?_cons_succ] at c7_1_0 c7_1_1 c7_1_2 c7_1_3 c7_1_4 c7_1_5; have HR7_1 : Hid _ := R7_1; clear R7_1; have HB7 : Hid (Below _ _ _) := hb7; clear hb7)
          | (go_at_call 19; go_must (refine (kb _).mono ?_); rintro e w8 ⟨rfl, hb8⟩; have R8_0 := (hb8.block (w4.heap.size) (by first | (simp; done) | (simp; omega) | omega)).trans ((Below.heap_alloc _ _ _ (by first | (simp; done) | (simp; omega) | omega)).trans HR7_0.out); have z8_0 : w4.heap.size < w8.heap.size := Nat.lt_of_lt_of_le (by first | (simp; done) | (simp; omega) | omega) hb8.size; have HR8_0 : Hid _ := R8_0; clear R8_0; have R8_1 := (hb8.block (w5.heap.size) (by first | (simp; done) | (simp; omega) | omega)).trans ((Below.heap_alloc _ _ _ (by first | (simp; done) | (simp; omega) | omega)).trans HR7_1.out); have z8_1 : w5.heap.size < w8.heap.size := Nat.lt_of_lt_of_le (by first | (simp; done) | (simp; omega) | omega) hb8.size; have HR8_1 : Hid _ := R8_1; clear R8_1; have R8_2 := (hb8.block (w7.heap.size) (by first | (simp; done) | (simp; omega) | omega)).trans (rownew' _ _ _ _ (by simp)); have z8_2 : w7.heap.size < w8.heap.size := Nat.lt_of_lt_of_le (by first | (simp; done) | (simp; omega) | omega) hb8.size; have HR8_2 : Hid _ := R8_2; clear R8_2; have HB8 : Hid (Below _ _ _) := hb8; clear hb8)
          | (go_at_call 11; go_must (refine (k2 _).mono ?_); rintro e w3 ⟨rfl, hb3⟩; have HB3 : Hid (Below _ _ _) := hb3; clear hb3)
          | (go_at_call 14; go_must (refine (k1 _).mono ?_); rintro e w2 ⟨rfl, hb2⟩; have HB2 : Hid (Below _ _ _) := hb2; clear hb2)
          | (go_at_call 13; go_must (refine (kis _).mono ?_); rintro e wx ⟨rfl, hwx⟩; rw [hwx]; clear hwx wx)
          | (go_at_call 7; go_must (refine (rootup_any _).mono ?_); rintro e w1 ⟨rfl, hb1⟩; have HB1 : Hid (Below _ _ _) := hb1; clear hb1))
        all_goals exact hQ.out _ _ ⟨by first | rfl | simp, cthen (cmore (cthen (cthen (cmore (cthen (cmore (cthen (cthen (cthen (cthen (Below.refl _ _) HB1.out) HB2.out) HB3.out) HB4.out) _) HB5.out) _) HB6.out) HB7.out) _) HB8.out⟩
      · clear hsq hform hisw hm ha hpl hw ka hsn hfl
        have HNE : Hid _ := heq
        clear heq
        unfold numV exV at *
        rw [show ((0 : Nat) : Int) = 0 from rfl] at *
        generalize vK m (patP m a a) = K1 at *
        generalize vB m (patP m a a) = B1 at *
        generalize vS m (patP m a a) = S1 at *
        generalize vF m (patP m a a) = F1 at *
        generalize patP m a a = P at *
        generalize vK m a = K0 at *
        generalize vB m a = B0 at *
        generalize vS m a = S0 at *
        generalize vF m a = F0 at *
        generalize absO m a = AB at *
        go_enter Try.func5, Try.ntmps5
        go_wp2_with (first
          | (go_at_call 15; have chk := HB5; go_must (refine (kdp _).mono ?_); rintro e w6 ⟨rfl, hb6⟩; have R6_0 := (hb6.block (w4.heap.size) (by first | (simp; done) | (simp; omega) | omega)).trans ((Below.heap_alloc _ _ _ (by first | (simp; done) | (simp; omega) | omega)).trans HR5_0.out); have z6_0 : w4.heap.size < w6.heap.size := Nat.lt_of_lt_of_le (by first | (simp; done) | (simp; omega) | omega) hb6.size; have HR6_0 : Hid _ := R6_0; clear R6_0; have R6_1 := (hb6.block (w5.heap.size) (by first | (simp; done) | (simp; omega) | omega)).trans (rownew' _ _ _ _ (by simp)); have z6_1 : w5.heap.size < w6.heap.size := Nat.lt_of_lt_of_le (by first | (simp; done) | (simp; omega) | omega) hb6.size; have c6_1_0 := rowcell R6_1 0; have c6_1_1 := rowcell R6_1 1; have c6_1_2 := rowcell R6_1 2; have c6_1_3 := rowcell R6_1 3; have c6_1_4 := rowcell R6_1 4; have c6_1_5 := rowcell R6_1 5; simp only [List.getElem?_toArray, List.getElem?_cons_zero, List.getElem?_cons_succ] at c6_1_0 c6_1_1 c6_1_2 c6_1_3 c6_1_4 c6_1_5; have HR6_1 : Hid _ := R6_1; clear R6_1; have HB6 : Hid (Below _ _ _) := hb6; clear hb6; clear chk)
          | (go_at_call 15; go_must (refine (kd _).mono ?_); rintro e w4 ⟨rfl, hb4⟩; have HB4 : Hid (Below _ _ _) := hb4; clear hb4)
          | (go_at_call 17; go_must (refine (ke _).mono ?_); rintro e w5 ⟨rfl, hb5⟩; have R5_0 := (hb5.block (w4.heap.size) (by first | (simp; done) | (simp; omega) | omega)).trans (rownew' _ _ _ _ (by simp)); have z5_0 : w4.heap.size < w5.heap.size := Nat.lt_of_lt_of_le (by first | (simp; done) | (simp; omega) | omega) hb5.size; have c5_0_0 := rowcell R5_0 0; have c5_0_1 := rowcell R5_0 1; have c5_0_2 := rowcell R5_0 2; have c5_0_3 := rowcell R5_0 3; simp only [List.getElem?_toArray, List.getElem?_cons_zero, List.getElem?_cons_succ] at c5_0_0 c5_0_1 c5_0_2 c5_0_3; have HR5_0 : Hid _ := R5_0; clear R5_0; have HB5 : Hid (Below _ _ _) := hb5; clear hb5)
          | (go_at_call 18; go_must (refine (ko _).mono ?_); rintro e w7 ⟨rfl, hb7⟩; have R7_0 := (hb7.block (w4.heap.size) (by first | (simp; done) | (simp; omega) | omega)).trans HR6_0.out; have z7_0 : w4.heap.size < w7.heap.size := Nat.lt_of_lt_of_le (by first | (simp; done) | (simp; omega) | omega) hb7.size; have HR7_0 : Hid _ := R7_0; clear R7_0; have R7_1 := (hb7.block (w5.heap.size) (by first | (simp; done) | (simp; omega) | omega)).trans HR6_1.out; have z7_1 : w5.heap.size < w7.heap.size := Nat.lt_of_lt_of_le (by first | (simp; done) | (simp; omega) | omega) hb7.size; have c7_1_0 := rowcell R7_1 0; have c7_1_1 := rowcell R7_1 1; have c7_1_2 := rowcell R7_1 2; have c7_1_3 := rowcell R7_1 3; have c7_1_4 := rowcell R7_1 4; have c7_1_5 := rowcell R7_1 5; simp only [List.getElem?_toArray, List.getElem?_cons_zero, List.getElem?_cons_succ] at c7_1_0 c7_1_1 c7_1_2 c7_1_3 c7_1_4 c7_1_5; have HR7_1 : Hid _ := R7_1; clear R7_1; have HB7 : Hid (Below _ _ _) := hb7; clear hb7)
          | (go_at_call 19; go_must (refine (kb _).mono ?_); rintro e w8 ⟨rfl, hb8⟩; have R8_0 := (hb8.block (w4.heap.size) (by first | (simp; done) | (simp; omega) | omega)).trans ((Below.heap_alloc _ _ _ (by first | (simp; done) | (simp; omega) | omega)).trans HR7_0.out); have z8_0 : w4.heap.size < w8.heap.size := Nat.lt_of_lt_of_le (by first | (simp; done) | (simp; omega) | omega) hb8.size; have HR8_0 : Hid _ := R8_0; clear R8_0; have R8_1 := (hb8.block (w5.heap.size) (by first | (simp; done) | (simp; omega) | omega)).trans ((Below.heap_alloc _ _ _ (by first | (simp; done) | (simp; omega) | omega)).trans HR7_1.out); have z8_1 : w5.heap.size < w8.heap.size := Nat.lt_of_lt_of_le (by first | (simp; done) | (simp; omega) | omega) hb8.size; have HR8_1 : Hid _ := R8_1; clear R8_1; have R8_2 := (hb8.block (w7.heap.size) (by first | (simp; done) | (simp; omega) | omega)).trans (rownew' _ _ _ _ (by simp)); have z8_2 : w7.heap.size < w8.heap.size := Nat.lt_of_lt_of_le (by first | (simp; done) | (simp; omega) | omega) hb8.size; have HR8_2 : Hid _ := R8_2; clear R8_2; have HB8 : Hid (Below _ _ _) := hb8; clear hb8)
          | (go_at_call 11; go_must (refine (k2 _).mono ?_); rintro e w3 ⟨rfl, hb3⟩; have HB3 : Hid (Below _ _ _) := hb3; clear hb3)
          | (go_at_call 14; go_must (refine (k1 _).mono ?_); rintro e w2 ⟨rfl, hb2⟩; have HB2 : Hid (Below _ _ _) := hb2; clear hb2)
          | (go_at_call 13; go_must (refine (kis _).mono ?_); rintro e wx ⟨rfl, hwx⟩; rw [hwx]; clear hwx wx)
          | (go_at_call 7; go_must (refine (rootup_any _).mono ?_); rintro e w1 ⟨rfl, hb1⟩; have HB1 : Hid (Below _ _ _) := hb1; clear hb1))
        all_goals first
          | exact hQ.out _ _ ⟨by first | rfl | simp, cmore (cthen (cthen (cmore (cthen (cmore (cthen (cthen (cthen (cthen (Below.refl _ _) HB1.out) HB2.out) HB3.out) HB4.out) _) HB5.out) _) HB6.out) HB7.out) _⟩
          | (exfalso; refine HNE.out ?_; simp_all)
end Go.Proofs.Ytllahgcifichbaa
