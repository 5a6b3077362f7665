import Derived.Test.YtajlgpamcpgalabJoin3
import Derived.Deep.CutBlock
import Derived.Deep.CutRange
import Derived.Lib.SmallJoins
namespace Go.Proofs.Ytajlgpamcpgalab
open Go.ChangeShapes Go.WideShapes Go.ChangeAt Go.RowKit
set_option linter.unusedVariables false
set_option linter.unusedSimpArgs false
set_option maxRecDepth 100000

set_option maxHeartbeats 4000000 in
theorem roundTies_main32 (neg : Bool) (s : Int) (hi lo : Nat) (hh : hi < 2 ^ 64) (hl : lo < 2 ^ 64) (hs : soundX 1 neg s hi lo false = true) (w : World) :
    Calls Try.prog 3 #[.int .i64 32, .agg #[.int .i64 1, .bool neg, .int .i64 s, .int .u64 hi, .int .u64 lo, .bool false]] w fun e w' => e = .returned (.bool true) ∧ Below w.heap.size w w' := by
  have he := fun w a b => Lib.run_eql_iface_int (P := Try.prog) w (t := 28) (tx := 51) (k := .i64) a b Try.underlying28 (by kernel_rfl) Try.underlying51
  have ks := sound7_any 1 neg s hi lo false
  rw [hs] at ks
  have hs2 : soundX 1 false s hi lo false = true := by
    have := hs
    unfold soundX at this ⊢
    rw [if_neg (by decide)] at this ⊢
    exact this
  have hx : WordsX hi lo := ⟨soundX_top hs, hh, hl⟩
  have hn : Wd 32 := by decide
  have kp := rround_real 32 false s hi lo false hn hs2 hx
  obtain ⟨P, hP⟩ : ∃ P, P = rndX 32 s hi lo false := ⟨_, rfl⟩
  rw [show patR 32 false (rndX 32 s hi lo false) = P from hP.symm] at kp
  obtain ⟨r1, r2⟩ := rnd_range 32 s hi lo false hn hx
  obtain ⟨t1, t2⟩ := ties_all 32 s hi lo (by decide) hx P hP
  rw [← hP] at r1 r2
  rw [show 2 ^ (32 - 1) - 1 = 2147483647 by decide] at r2 t1
  have kpow := power_any 31 (by decide)
  rw [show ((2 ^ 31 : Nat) : Int) = 2147483648 from rfl, show ((31 : Nat) : Int) = 31 from rfl] at kpow
  have hA64 : P * 2 ^ (63 - 32 + 1) + 2 ^ (63 - 32) < 2 ^ 64 := Nat.lt_of_le_of_lt (Nat.add_le_add_right (Nat.mul_le_mul_right _ r2) _) (by decide)
  have hB64 : (P - 1) * 2 ^ (63 - 32 + 1) + 2 ^ (63 - 32) < 2 ^ 64 := Nat.lt_of_le_of_lt (Nat.add_le_add_right (Nat.mul_le_mul_right _ (Nat.le_trans (Nat.sub_le _ _) r2)) _) (by decide)
  obtain ⟨XA, TA, a1, a2, kA⟩ := tie_by 32 P (by decide) (by decide) (by show P < 2147483648; omega) 4294967296 2147483648 (by decide) (by decide) hA64
  obtain ⟨XB, TB, b1, b2, kB⟩ := tie_by 32 (P - 1) (by decide) (by decide) (by show P - 1 < 2147483648; omega) 4294967296 2147483648 (by decide) (by decide) hB64
  have b0 : IntKind.u64.wrap ((P : Int) - 1) = ((P - 1 : Nat) : Int) := by rw [show (P : Int) - 1 = ((P - 1 : Nat) : Int) by omega, wrapN, Nat.mod_eq_of_lt (by omega)]
  have kC := fun w => cmp7_pos s (scaleL (tieL 32 P)) hi lo (wordL (tieL 32 P)) 0 w
  have kD := fun w => cmp7_pos s (scaleL (tieL 32 (P - 1))) hi lo (wordL (tieL 32 (P - 1))) 0 w
  have wA := wordL_bounds (tieL 32 P)
  have wB := wordL_bounds (tieL 32 (P - 1))
  have tl : ∀ q, soundN 1 false (scaleL (tieL 32 q)) (wordL (tieL 32 q)) = true := fun q => by
    have h1 := scaleL_range (tieL 32 q) (by rw [tieL_length 32 q (by decide) (by decide)]; exact Nat.le_refl _)
    have h2 := wordL_bounds (tieL 32 q)
    unfold soundN
    rw [if_neg (by decide)]
    exact decide_eq_true ⟨rfl, h2.1, by omega, by omega⟩
  have kE := rndof_ok 1 false (scaleL (tieL 32 P)) (wordL (tieL 32 P)) wA.2 (tl P)
  have kF := rndof_ok 1 false (scaleL (tieL 32 (P - 1))) (wordL (tieL 32 (P - 1))) wB.2 (tl (P - 1))
  generalize scaleL (tieL 32 P) = sa at *
  generalize wordL (tieL 32 P) = fa at *
  generalize scaleL (tieL 32 (P - 1)) = sb at *
  generalize wordL (tieL 32 (P - 1)) = fb at *
  generalize cmpV s hi lo sa fa 0 = ca at *
  generalize cmpV s hi lo sb fb 0 = cb at *
  have ww1 : IntKind.i64.wrap 32 = 32 := by decide
  have ww2 : IntKind.i64.wrap 31 = 31 := by decide
  have ww3 : IntKind.u64.wrap 2147483648 = 2147483648 := by decide
  have q0 : ((P : Int) == 0) = false := beq_eq_false_iff_ne.2 (by omega)
  have q1 : decide ((2147483648 : Int) ≤ (P : Int)) = false := decide_eq_false (by omega)
  generalize P - 1 = P1 at *
  have T1 : Hid _ := t1
  have T2 : Hid _ := t2
  have HP1 : Hid (1 ≤ P ∧ P ≤ 2147483647) := ⟨r1, r2⟩
  unfold exV numV at *
  rw [show ((0 : Nat) : Int) = 0 from rfl] at *
  clear hs hs2 hx hn hP r1 r2 t1 t2 wA wB tl hA64 hB64 hh hl
  refine cps fun Q hQ => ?_
  go_enter Try.func3, Try.ntmps3
  go_upto_region 9 with (first
    | (go_at_call 4; go_must (refine (rup_any _).mono ?_); rintro e w1 ⟨rfl, hb1⟩; have R1_0 := (hb1.block (w.heap.size) (by first | (simp; done) | (simp; omega) | omega)).trans (rownew' _ _ _ _ (by simp)); have z1_0 : w.heap.size < w1.heap.size := Nat.lt_of_lt_of_le (by first | (simp; done) | (simp; omega) | omega) hb1.size; have ne1_0 : ¬ w.heap.size = w1.heap.size := (by omega); have en1_0 : ¬ w1.heap.size = w.heap.size := (by omega); have c1_0_0 := rowcell R1_0 0; have c1_0_1 := rowcell R1_0 1; have c1_0_2 := rowcell R1_0 2; have c1_0_3 := rowcell R1_0 3; have c1_0_4 := rowcell R1_0 4; have c1_0_5 := rowcell R1_0 5; have cf1_0 := rowfree R1_0; simp only [List.getElem?_toArray, List.getElem?_cons_zero, List.getElem?_cons_succ] at c1_0_0 c1_0_1 c1_0_2 c1_0_3 c1_0_4 c1_0_5; have HR1_0 : Hid _ := R1_0; clear R1_0; have HB1 : Hid (Below _ _ _) := hb1; clear hb1)
    | (go_at_call 5; go_must (refine (ks _).mono ?_); rintro e w2 ⟨rfl, hb2⟩; have R2_0 := (hb2.block (w.heap.size) (by first | (simp; done) | (simp; omega) | omega)).trans HR1_0.out; have z2_0 : w.heap.size < w2.heap.size := Nat.lt_of_lt_of_le (by first | (simp; done) | (simp; omega) | omega) hb2.size; have ne2_0 : ¬ w.heap.size = w2.heap.size := (by omega); have en2_0 : ¬ w2.heap.size = w.heap.size := (by omega); have c2_0_0 := rowcell R2_0 0; have c2_0_1 := rowcell R2_0 1; have c2_0_2 := rowcell R2_0 2; have c2_0_3 := rowcell R2_0 3; have c2_0_4 := rowcell R2_0 4; have c2_0_5 := rowcell R2_0 5; have cf2_0 := rowfree R2_0; simp only [List.getElem?_toArray, List.getElem?_cons_zero, List.getElem?_cons_succ] at c2_0_0 c2_0_1 c2_0_2 c2_0_3 c2_0_4 c2_0_5; have HR2_0 : Hid _ := R2_0; clear R2_0; have HB2 : Hid (Below _ _ _) := hb2; clear hb2)
    | (go_at_call 6; go_must (refine (kp _).mono ?_); rintro e w3 ⟨rfl, hb3⟩; have R3_0 : w3.heap[w.heap.size]? = some (.cells #[.int .i64 1, .bool false, .int .i64 s, .int .u64 hi, .int .u64 lo, .bool false] 24 (0, 0)) := (hb3.block w.heap.size (by simpa using z2_0)).trans ((rowset HR2_0.out 1 _).trans (by simp only [List.setIfInBounds_toArray, List.set_cons_zero, List.set_cons_succ])); have z3_0 : w.heap.size < w3.heap.size := Nat.lt_of_lt_of_le (by simpa using z2_0) hb3.size; have HB3 : Hid (Below w.heap.size w w3) := cthen (cset (cthen (cthen (cmore (Below.refl _ _) _) HB1.out) HB2.out) (Nat.le_refl _) _ _) hb3; have HR3_0 : Hid _ := R3_0; clear R3_0 hb3)
    | (go_at_call 7; go_must (refine (kpow _).mono ?_); rintro e wx ⟨rfl, hwx⟩; rw [hwx]; clear hwx wx))
  go_cut [9, 10] from 68 (fun sx sy wx => ∃ m : Nat, sx = .pointer (some ⟨m, 0, none⟩) ∧ sy = .nilIface ∧ Below w3.heap.size w3 wx ∧ w3.heap.size ≤ m ∧ wx.heap[m]? = some (.cells #[.int .i64 1, .bool false, .int .i64 sa, .int .u64 fa] 33 (0, 0)))
  case first =>
    refine wpC_region (fun W => True) (by kernel_rfl) ?_
    refine wpC_take 0 (v := ?_) rfl (by kernel_rfl) (fun _ _ _ h => h) (by kernel_rfl) ?_ ?_; rotate_left; · (intro wC hC; obtain _ := hC; go_simp <;> with_reducible rfl)
    refine wpC_take 1 (v := ?_) rfl (by kernel_rfl) (fun _ _ _ h => h) (by kernel_rfl) ?_ ?_; rotate_left; · (intro wC hC; obtain _ := hC; go_simp <;> with_reducible rfl)
    refine wpC_take 2 (v := ?_) rfl (by kernel_rfl) (fun _ _ _ h => h) (by kernel_rfl) ?_ ?_; rotate_left; · (intro wC hC; obtain _ := hC; go_simp <;> with_reducible rfl)
    refine wpC_take 3 (v := ?_) rfl (by kernel_rfl) (fun _ _ _ h => h) (by kernel_rfl) ?_ ?_; rotate_left; · (intro wC hC; obtain _ := hC; go_simp <;> with_reducible rfl)
    refine wpC_take 4 (v := ?_) rfl (by kernel_rfl) (fun _ _ _ h => h) (by kernel_rfl) ?_ ?_; rotate_left; · (intro wC hC; obtain _ := hC; go_simp <;> with_reducible rfl)
    refine wpC_take 5 (v := ?_) rfl (by kernel_rfl) (fun _ _ _ h => h) (by kernel_rfl) ?_ ?_; rotate_left; · (intro wC hC; obtain _ := hC; go_simp <;> with_reducible rfl)
    refine wpC_take 6 (v := ?_) rfl (by kernel_rfl) (fun _ _ _ h => h) (by kernel_rfl) ?_ ?_; rotate_left; · (intro wC hC; obtain _ := hC; go_simp <;> with_reducible rfl)
    refine wpC_take 7 (v := ?_) rfl (by kernel_rfl) (fun _ _ _ h => h) (by kernel_rfl) ?_ ?_; rotate_left; · (intro wC hC; obtain _ := hC; go_simp <;> with_reducible rfl)
    refine wpC_two 8 12 rfl rfl (by kernel_rfl) (by kernel_rfl) (by kernel_rfl) trivial (fun K hK => ?_) (fun K hK => ?_)
    · skip
      go_simp
      go_wp2_with ((go_at_call 8; refine (kA _).mono ?_; rintro e wy ⟨rfl, hby⟩))
      try (refine hK _ _ ?_; clear hK K)
      have BY := cthen (cdrew (Below.refl w3.heap.size w3)) hby
      refine wpC_take 9 (v := ?_) rfl (by kernel_rfl) (fun _ _ _ h => h) (by kernel_rfl) ?_ ?_; rotate_left; · (intro wC hC; obtain _ := hC; go_simp <;> with_reducible rfl)
      refine wpC_take 10 (v := ?_) rfl (by kernel_rfl) (fun _ _ _ h => h) (by kernel_rfl) ?_ ?_; rotate_left; · (intro wC hC; obtain _ := hC; go_simp <;> with_reducible rfl)
      refine wpC_take 11 (v := ?_) rfl (by kernel_rfl) (fun _ _ _ h => h) (by kernel_rfl) ?_ ?_; rotate_left; · (intro wC hC; obtain _ := hC; go_simp <;> with_reducible rfl)
      refine wpC_step 12 rfl (by kernel_rfl) (by kernel_rfl) trivial (fun K hK => ?_)
      go_simp
      try (refine hK _ _ ?_; clear hK K)
      refine wpC_step 13 rfl (by kernel_rfl) (by kernel_rfl) trivial (fun K hK => ?_)
      go_simp
      try (refine hK _ _ ?_; clear hK K)
      refine wpC_take 14 (v := ?_) rfl (by kernel_rfl) (fun _ _ _ h => h) (by kernel_rfl) ?_ ?_; rotate_left; · (intro wC hC; obtain _ := hC; go_simp <;> with_reducible rfl)
      refine wpC_done (C := fun _ => True) (by kernel_rfl) trivial ?_
      go_wp2_with fail
      go_meet
      case rel => exact ⟨_, rfl, rfl, cmore BY _, BY.size, rownew _ _ _⟩
    · skip
      go_simp
      try (refine hK _ _ ?_; clear hK K)
      refine wpC_step 8 rfl (by kernel_rfl) (by kernel_rfl) trivial (fun K hK => ?_)
      go_simp
      go_wp2_with ((go_at_call 8; refine (kA _).mono ?_; rintro e wy ⟨rfl, hby⟩; obtain ⟨hcy, hfy⟩ := ccell hby))
      try (refine hK _ _ ?_; clear hK K)
      have BY := cthen (cmore (cdrew (Below.refl w3.heap.size w3)) _) hby
      have RY := (hby.block w3.heap.size (by simp)).trans (rownew w3.drew _ _)
      have ZY : w3.heap.size < wy.heap.size := by have := hby.size; simp at this; omega
      have y0 := rowcell RY 0
      have y1 := rowcell RY 1
      have y2 := rowcell RY 2
      have y3 := rowcell RY 3
      have yf := rowfree RY
      simp only [List.getElem?_toArray, List.getElem?_cons_zero, List.getElem?_cons_succ] at y0 y1 y2 y3
      refine wpC_take 9 (v := ?_) rfl (by kernel_rfl) (fun _ _ _ h => h) (by kernel_rfl) ?_ ?_; rotate_left; · (intro wC hC; obtain _ := hC; go_simp <;> with_reducible rfl)
      refine wpC_take 10 (v := ?_) rfl (by kernel_rfl) (fun _ _ _ h => h) (by kernel_rfl) ?_ ?_; rotate_left; · (intro wC hC; obtain _ := hC; go_simp <;> with_reducible rfl)
      refine wpC_take 11 (v := ?_) rfl (by kernel_rfl) (fun _ _ _ h => h) (by kernel_rfl) ?_ ?_; rotate_left; · (intro wC hC; obtain _ := hC; go_simp <;> with_reducible rfl)
      refine wpC_step 13 rfl (by kernel_rfl) (by kernel_rfl) trivial (fun K hK => ?_)
      go_simp
      try (refine hK _ _ ?_; clear hK K)
      refine wpC_take 14 (v := ?_) rfl (by kernel_rfl) (fun _ _ _ h => h) (by kernel_rfl) ?_ ?_; rotate_left; · (intro wC hC; obtain _ := hC; go_simp <;> with_reducible rfl)
      refine wpC_done (C := fun _ => True) (by kernel_rfl) trivial ?_
      go_wp2_with fail
      go_meet
      case rel => exact ⟨_, rfl, rfl, cset4 BY (Nat.le_refl _), Nat.le_refl _, row4 RY⟩
  case rest =>
    obtain ⟨m, rfl, rfl, HBa, hma, hrowa⟩ := hcut
    have HRa0 : Hid _ := (HBa.block _ z3_0).trans HR3_0.out
    have HRa1 : Hid _ := hrowa
    have za0 := Nat.lt_of_lt_of_le z3_0 HBa.size
    have za1 := rowlt hrowa
    have hm0 : w.heap.size < m := by omega
    have HBA : Hid (Below _ _ _) := HBa
    clear HBa hrowa
    go_upto_region 10 with fail
    go_cut [11, 12] from 80 (fun sx sy wx => ∃ m : Nat, sx = .pointer (some ⟨m, 0, none⟩) ∧ sy = .nilIface ∧ Below wc.heap.size wc wx ∧ wc.heap.size ≤ m ∧ wx.heap[m]? = some (.cells #[.int .i64 1, .bool false, .int .i64 sb, .int .u64 fb] 33 (0, 0)))
    case first =>
      refine wpC_region (fun W => True) (by kernel_rfl) ?_
      refine wpC_take 0 (v := ?_) rfl (by kernel_rfl) (fun _ _ _ h => h) (by kernel_rfl) ?_ ?_; rotate_left; · (intro wC hC; obtain _ := hC; go_simp <;> with_reducible rfl)
      refine wpC_take 1 (v := ?_) rfl (by kernel_rfl) (fun _ _ _ h => h) (by kernel_rfl) ?_ ?_; rotate_left; · (intro wC hC; obtain _ := hC; go_simp <;> with_reducible rfl)
      refine wpC_take 2 (v := ?_) rfl (by kernel_rfl) (fun _ _ _ h => h) (by kernel_rfl) ?_ ?_; rotate_left; · (intro wC hC; obtain _ := hC; go_simp <;> with_reducible rfl)
      refine wpC_take 3 (v := ?_) rfl (by kernel_rfl) (fun _ _ _ h => h) (by kernel_rfl) ?_ ?_; rotate_left; · (intro wC hC; obtain _ := hC; go_simp <;> with_reducible rfl)
      refine wpC_take 4 (v := ?_) rfl (by kernel_rfl) (fun _ _ _ h => h) (by kernel_rfl) ?_ ?_; rotate_left; · (intro wC hC; obtain _ := hC; go_simp <;> with_reducible rfl)
      refine wpC_take 5 (v := ?_) rfl (by kernel_rfl) (fun _ _ _ h => h) (by kernel_rfl) ?_ ?_; rotate_left; · (intro wC hC; obtain _ := hC; go_simp <;> with_reducible rfl)
      refine wpC_take 6 (v := ?_) rfl (by kernel_rfl) (fun _ _ _ h => h) (by kernel_rfl) ?_ ?_; rotate_left; · (intro wC hC; obtain _ := hC; go_simp <;> with_reducible rfl)
      refine wpC_take 7 (v := ?_) rfl (by kernel_rfl) (fun _ _ _ h => h) (by kernel_rfl) ?_ ?_; rotate_left; · (intro wC hC; obtain _ := hC; go_simp <;> with_reducible rfl)
      refine wpC_take 8 (v := ?_) rfl (by kernel_rfl) (fun _ _ _ h => h) (by kernel_rfl) ?_ ?_; rotate_left; · (intro wC hC; obtain _ := hC; go_simp <;> with_reducible rfl)
      refine wpC_two 9 13 rfl rfl (by kernel_rfl) (by kernel_rfl) (by kernel_rfl) trivial (fun K hK => ?_) (fun K hK => ?_)
      · skip
        go_simp
        go_wp2_with ((go_at_call 8; refine (kB _).mono ?_; rintro e wy ⟨rfl, hby⟩))
        try (refine hK _ _ ?_; clear hK K)
        have BY := cthen (cdrew (Below.refl wc.heap.size wc)) hby
        refine wpC_take 10 (v := ?_) rfl (by kernel_rfl) (fun _ _ _ h => h) (by kernel_rfl) ?_ ?_; rotate_left; · (intro wC hC; obtain _ := hC; go_simp <;> with_reducible rfl)
        refine wpC_take 11 (v := ?_) rfl (by kernel_rfl) (fun _ _ _ h => h) (by kernel_rfl) ?_ ?_; rotate_left; · (intro wC hC; obtain _ := hC; go_simp <;> with_reducible rfl)
        refine wpC_take 12 (v := ?_) rfl (by kernel_rfl) (fun _ _ _ h => h) (by kernel_rfl) ?_ ?_; rotate_left; · (intro wC hC; obtain _ := hC; go_simp <;> with_reducible rfl)
        refine wpC_step 13 rfl (by kernel_rfl) (by kernel_rfl) trivial (fun K hK => ?_)
        go_simp
        try (refine hK _ _ ?_; clear hK K)
        refine wpC_step 14 rfl (by kernel_rfl) (by kernel_rfl) trivial (fun K hK => ?_)
        go_simp
        try (refine hK _ _ ?_; clear hK K)
        refine wpC_take 15 (v := ?_) rfl (by kernel_rfl) (fun _ _ _ h => h) (by kernel_rfl) ?_ ?_; rotate_left; · (intro wC hC; obtain _ := hC; go_simp <;> with_reducible rfl)
        refine wpC_done (C := fun _ => True) (by kernel_rfl) trivial ?_
        go_wp2_with fail
        go_meet
        case rel => exact ⟨_, rfl, rfl, cmore BY _, BY.size, rownew _ _ _⟩
      · skip
        go_simp
        try (refine hK _ _ ?_; clear hK K)
        refine wpC_step 9 rfl (by kernel_rfl) (by kernel_rfl) trivial (fun K hK => ?_)
        go_simp
        go_wp2_with ((go_at_call 8; refine (kB _).mono ?_; rintro e wy ⟨rfl, hby⟩; obtain ⟨hcy, hfy⟩ := ccell hby))
        try (refine hK _ _ ?_; clear hK K)
        have BY := cthen (cmore (cdrew (Below.refl wc.heap.size wc)) _) hby
        have RY := (hby.block wc.heap.size (by simp)).trans (rownew wc.drew _ _)
        have ZY : wc.heap.size < wy.heap.size := by have := hby.size; simp at this; omega
        have y0 := rowcell RY 0
        have y1 := rowcell RY 1
        have y2 := rowcell RY 2
        have y3 := rowcell RY 3
        have yf := rowfree RY
        simp only [List.getElem?_toArray, List.getElem?_cons_zero, List.getElem?_cons_succ] at y0 y1 y2 y3
        refine wpC_take 10 (v := ?_) rfl (by kernel_rfl) (fun _ _ _ h => h) (by kernel_rfl) ?_ ?_; rotate_left; · (intro wC hC; obtain _ := hC; go_simp <;> with_reducible rfl)
        refine wpC_take 11 (v := ?_) rfl (by kernel_rfl) (fun _ _ _ h => h) (by kernel_rfl) ?_ ?_; rotate_left; · (intro wC hC; obtain _ := hC; go_simp <;> with_reducible rfl)
        refine wpC_take 12 (v := ?_) rfl (by kernel_rfl) (fun _ _ _ h => h) (by kernel_rfl) ?_ ?_; rotate_left; · (intro wC hC; obtain _ := hC; go_simp <;> with_reducible rfl)
        refine wpC_step 14 rfl (by kernel_rfl) (by kernel_rfl) trivial (fun K hK => ?_)
        go_simp
        try (refine hK _ _ ?_; clear hK K)
        refine wpC_take 15 (v := ?_) rfl (by kernel_rfl) (fun _ _ _ h => h) (by kernel_rfl) ?_ ?_; rotate_left; · (intro wC hC; obtain _ := hC; go_simp <;> with_reducible rfl)
        refine wpC_done (C := fun _ => True) (by kernel_rfl) trivial ?_
        go_wp2_with fail
        go_meet
        case rel => exact ⟨_, rfl, rfl, cset4 BY (Nat.le_refl _), Nat.le_refl _, row4 RY⟩
    case rest =>
      obtain ⟨m2, rfl, rfl, HBb, hmb, hrowb⟩ := hcut
      have R9_0 := (HBb.block _ za0).trans HRa0.out
      have R9_1 := (HBb.block _ za1).trans HRa1.out
      have R9_2 := hrowb
      have z9_0 : w.heap.size < wc.heap.size := Nat.lt_of_lt_of_le za0 HBb.size
      have z9_1 : m < wc.heap.size := Nat.lt_of_lt_of_le za1 HBb.size
      have z9_2 : m2 < wc.heap.size := rowlt hrowb
      have hm2 : w.heap.size < m2 := by omega
      have hmm : m < m2 := by omega
      have HR9_0 : Hid _ := R9_0
      have HR9_1 : Hid _ := R9_1
      have HR9_2 : Hid _ := R9_2
      have HBC : Hid (Below _ _ _) := HBb
      have c9_0_0 := rowcell R9_0 0
      have c9_0_1 := rowcell R9_0 1
      have c9_0_2 := rowcell R9_0 2
      have c9_0_3 := rowcell R9_0 3
      have c9_0_4 := rowcell R9_0 4
      have c9_0_5 := rowcell R9_0 5
      have cf9_0 := rowfree R9_0
      simp only [List.getElem?_toArray, List.getElem?_cons_zero, List.getElem?_cons_succ] at c9_0_0 c9_0_1 c9_0_2 c9_0_3 c9_0_4 c9_0_5
      have c9_1_0 := rowcell R9_1 0
      have c9_1_1 := rowcell R9_1 1
      have c9_1_2 := rowcell R9_1 2
      have c9_1_3 := rowcell R9_1 3
      have cf9_1 := rowfree R9_1
      simp only [List.getElem?_toArray, List.getElem?_cons_zero, List.getElem?_cons_succ] at c9_1_0 c9_1_1 c9_1_2 c9_1_3
      have c9_2_0 := rowcell R9_2 0
      have c9_2_1 := rowcell R9_2 1
      have c9_2_2 := rowcell R9_2 2
      have c9_2_3 := rowcell R9_2 3
      have cf9_2 := rowfree R9_2
      simp only [List.getElem?_toArray, List.getElem?_cons_zero, List.getElem?_cons_succ] at c9_2_0 c9_2_1 c9_2_2 c9_2_3
      clear R9_0 R9_1 R9_2 HBb hrowb
      go_upto_region 17 with (first
        | (go_at_call_of 9 sa; go_must (refine (kE _).mono ?_); rintro e w10 ⟨rfl, hb10⟩; have R10_0 := (hb10.block (w.heap.size) (by first | (simp; done) | (simp; omega) | omega)).trans HR9_0.out; have z10_0 : w.heap.size < w10.heap.size := Nat.lt_of_lt_of_le (by first | (simp; done) | (simp; omega) | omega) hb10.size; have ne10_0 : ¬ w.heap.size = w10.heap.size := (by omega); have en10_0 : ¬ w10.heap.size = w.heap.size := (by omega); have c10_0_0 := rowcell R10_0 0; have c10_0_1 := rowcell R10_0 1; have c10_0_2 := rowcell R10_0 2; have c10_0_3 := rowcell R10_0 3; have c10_0_4 := rowcell R10_0 4; have c10_0_5 := rowcell R10_0 5; have cf10_0 := rowfree R10_0; simp only [List.getElem?_toArray, List.getElem?_cons_zero, List.getElem?_cons_succ] at c10_0_0 c10_0_1 c10_0_2 c10_0_3 c10_0_4 c10_0_5; have HR10_0 : Hid _ := R10_0; clear R10_0; have R10_1 := (hb10.block (m) (by first | (simp; done) | (simp; omega) | omega)).trans HR9_1.out; have z10_1 : m < w10.heap.size := Nat.lt_of_lt_of_le (by first | (simp; done) | (simp; omega) | omega) hb10.size; have ne10_1 : ¬ m = w10.heap.size := (by omega); have en10_1 : ¬ w10.heap.size = m := (by omega); have c10_1_0 := rowcell R10_1 0; have c10_1_1 := rowcell R10_1 1; have c10_1_2 := rowcell R10_1 2; have c10_1_3 := rowcell R10_1 3; have cf10_1 := rowfree R10_1; simp only [List.getElem?_toArray, List.getElem?_cons_zero, List.getElem?_cons_succ] at c10_1_0 c10_1_1 c10_1_2 c10_1_3; have HR10_1 : Hid _ := R10_1; clear R10_1; have R10_2 := (hb10.block (m2) (by first | (simp; done) | (simp; omega) | omega)).trans HR9_2.out; have z10_2 : m2 < w10.heap.size := Nat.lt_of_lt_of_le (by first | (simp; done) | (simp; omega) | omega) hb10.size; have ne10_2 : ¬ m2 = w10.heap.size := (by omega); have en10_2 : ¬ w10.heap.size = m2 := (by omega); have c10_2_0 := rowcell R10_2 0; have c10_2_1 := rowcell R10_2 1; have c10_2_2 := rowcell R10_2 2; have c10_2_3 := rowcell R10_2 3; have cf10_2 := rowfree R10_2; simp only [List.getElem?_toArray, List.getElem?_cons_zero, List.getElem?_cons_succ] at c10_2_0 c10_2_1 c10_2_2 c10_2_3; have HR10_2 : Hid _ := R10_2; clear R10_2; have HB10 : Hid (Below _ _ _) := hb10; clear hb10)
        | (go_at_call_of 9 sb; go_must (refine (kF _).mono ?_); rintro e w11 ⟨rfl, hb11⟩; have R11_0 := (hb11.block (w.heap.size) (by first | (simp; done) | (simp; omega) | omega)).trans ((Below.heap_alloc _ _ _ (by first | (simp; done) | (simp; omega) | omega)).trans HR10_0.out); have z11_0 : w.heap.size < w11.heap.size := Nat.lt_of_lt_of_le (by first | (simp; done) | (simp; omega) | omega) hb11.size; have ne11_0 : ¬ w.heap.size = w11.heap.size := (by omega); have en11_0 : ¬ w11.heap.size = w.heap.size := (by omega); have c11_0_0 := rowcell R11_0 0; have c11_0_1 := rowcell R11_0 1; have c11_0_2 := rowcell R11_0 2; have c11_0_3 := rowcell R11_0 3; have c11_0_4 := rowcell R11_0 4; have c11_0_5 := rowcell R11_0 5; have cf11_0 := rowfree R11_0; simp only [List.getElem?_toArray, List.getElem?_cons_zero, List.getElem?_cons_succ] at c11_0_0 c11_0_1 c11_0_2 c11_0_3 c11_0_4 c11_0_5; have HR11_0 : Hid _ := R11_0; clear R11_0; have R11_1 := (hb11.block (m) (by first | (simp; done) | (simp; omega) | omega)).trans ((Below.heap_alloc _ _ _ (by first | (simp; done) | (simp; omega) | omega)).trans HR10_1.out); have z11_1 : m < w11.heap.size := Nat.lt_of_lt_of_le (by first | (simp; done) | (simp; omega) | omega) hb11.size; have ne11_1 : ¬ m = w11.heap.size := (by omega); have en11_1 : ¬ w11.heap.size = m := (by omega); have c11_1_0 := rowcell R11_1 0; have c11_1_1 := rowcell R11_1 1; have c11_1_2 := rowcell R11_1 2; have c11_1_3 := rowcell R11_1 3; have cf11_1 := rowfree R11_1; simp only [List.getElem?_toArray, List.getElem?_cons_zero, List.getElem?_cons_succ] at c11_1_0 c11_1_1 c11_1_2 c11_1_3; have HR11_1 : Hid _ := R11_1; clear R11_1; have R11_2 := (hb11.block (m2) (by first | (simp; done) | (simp; omega) | omega)).trans ((Below.heap_alloc _ _ _ (by first | (simp; done) | (simp; omega) | omega)).trans HR10_2.out); have z11_2 : m2 < w11.heap.size := Nat.lt_of_lt_of_le (by first | (simp; done) | (simp; omega) | omega) hb11.size; have ne11_2 : ¬ m2 = w11.heap.size := (by omega); have en11_2 : ¬ w11.heap.size = m2 := (by omega); have c11_2_0 := rowcell R11_2 0; have c11_2_1 := rowcell R11_2 1; have c11_2_2 := rowcell R11_2 2; have c11_2_3 := rowcell R11_2 3; have cf11_2 := rowfree R11_2; simp only [List.getElem?_toArray, List.getElem?_cons_zero, List.getElem?_cons_succ] at c11_2_0 c11_2_1 c11_2_2 c11_2_3; have HR11_2 : Hid _ := R11_2; clear R11_2; have R11_3 := (hb11.block (w10.heap.size) (by first | (simp; done) | (simp; omega) | omega)).trans (rownew' _ _ _ _ (by simp)); have z11_3 : w10.heap.size < w11.heap.size := Nat.lt_of_lt_of_le (by first | (simp; done) | (simp; omega) | omega) hb11.size; have ne11_3 : ¬ w10.heap.size = w11.heap.size := (by omega); have en11_3 : ¬ w11.heap.size = w10.heap.size := (by omega); have c11_3_0 := rowcell R11_3 0; have c11_3_1 := rowcell R11_3 1; have c11_3_2 := rowcell R11_3 2; have c11_3_3 := rowcell R11_3 3; have c11_3_4 := rowcell R11_3 4; have c11_3_5 := rowcell R11_3 5; have cf11_3 := rowfree R11_3; simp only [List.getElem?_toArray, List.getElem?_cons_zero, List.getElem?_cons_succ] at c11_3_0 c11_3_1 c11_3_2 c11_3_3 c11_3_4 c11_3_5; have HR11_3 : Hid _ := R11_3; clear R11_3; have HB11 : Hid (Below _ _ _) := hb11; clear hb11)
        | (go_at_call_of 10 sa; go_must (refine (kC _).mono ?_); rintro e w12 ⟨rfl, hb12⟩; have R12_0 := (hb12.block (w.heap.size) (by first | (simp; done) | (simp; omega) | omega)).trans ((Below.heap_alloc _ _ _ (by first | (simp; done) | (simp; omega) | omega)).trans HR11_0.out); have z12_0 : w.heap.size < w12.heap.size := Nat.lt_of_lt_of_le (by first | (simp; done) | (simp; omega) | omega) hb12.size; have ne12_0 : ¬ w.heap.size = w12.heap.size := (by omega); have en12_0 : ¬ w12.heap.size = w.heap.size := (by omega); have c12_0_0 := rowcell R12_0 0; have c12_0_1 := rowcell R12_0 1; have c12_0_2 := rowcell R12_0 2; have c12_0_3 := rowcell R12_0 3; have c12_0_4 := rowcell R12_0 4; have c12_0_5 := rowcell R12_0 5; have cf12_0 := rowfree R12_0; simp only [List.getElem?_toArray, List.getElem?_cons_zero, List.getElem?_cons_succ] at c12_0_0 c12_0_1 c12_0_2 c12_0_3 c12_0_4 c12_0_5; have HR12_0 : Hid _ := R12_0; clear R12_0; have R12_1 := (hb12.block (m) (by first | (simp; done) | (simp; omega) | omega)).trans ((Below.heap_alloc _ _ _ (by first | (simp; done) | (simp; omega) | omega)).trans HR11_1.out); have z12_1 : m < w12.heap.size := Nat.lt_of_lt_of_le (by first | (simp; done) | (simp; omega) | omega) hb12.size; have ne12_1 : ¬ m = w12.heap.size := (by omega); have en12_1 : ¬ w12.heap.size = m := (by omega); have c12_1_0 := rowcell R12_1 0; have c12_1_1 := rowcell R12_1 1; have c12_1_2 := rowcell R12_1 2; have c12_1_3 := rowcell R12_1 3; have cf12_1 := rowfree R12_1; simp only [List.getElem?_toArray, List.getElem?_cons_zero, List.getElem?_cons_succ] at c12_1_0 c12_1_1 c12_1_2 c12_1_3; have HR12_1 : Hid _ := R12_1; clear R12_1; have R12_2 := (hb12.block (m2) (by first | (simp; done) | (simp; omega) | omega)).trans ((Below.heap_alloc _ _ _ (by first | (simp; done) | (simp; omega) | omega)).trans HR11_2.out); have z12_2 : m2 < w12.heap.size := Nat.lt_of_lt_of_le (by first | (simp; done) | (simp; omega) | omega) hb12.size; have ne12_2 : ¬ m2 = w12.heap.size := (by omega); have en12_2 : ¬ w12.heap.size = m2 := (by omega); have c12_2_0 := rowcell R12_2 0; have c12_2_1 := rowcell R12_2 1; have c12_2_2 := rowcell R12_2 2; have c12_2_3 := rowcell R12_2 3; have cf12_2 := rowfree R12_2; simp only [List.getElem?_toArray, List.getElem?_cons_zero, List.getElem?_cons_succ] at c12_2_0 c12_2_1 c12_2_2 c12_2_3; have HR12_2 : Hid _ := R12_2; clear R12_2; have R12_3 := (hb12.block (w10.heap.size) (by first | (simp; done) | (simp; omega) | omega)).trans ((Below.heap_alloc _ _ _ (by first | (simp; done) | (simp; omega) | omega)).trans HR11_3.out); have z12_3 : w10.heap.size < w12.heap.size := Nat.lt_of_lt_of_le (by first | (simp; done) | (simp; omega) | omega) hb12.size; have ne12_3 : ¬ w10.heap.size = w12.heap.size := (by omega); have en12_3 : ¬ w12.heap.size = w10.heap.size := (by omega); have c12_3_0 := rowcell R12_3 0; have c12_3_1 := rowcell R12_3 1; have c12_3_2 := rowcell R12_3 2; have c12_3_3 := rowcell R12_3 3; have c12_3_4 := rowcell R12_3 4; have c12_3_5 := rowcell R12_3 5; have cf12_3 := rowfree R12_3; simp only [List.getElem?_toArray, List.getElem?_cons_zero, List.getElem?_cons_succ] at c12_3_0 c12_3_1 c12_3_2 c12_3_3 c12_3_4 c12_3_5; have HR12_3 : Hid _ := R12_3; clear R12_3; have R12_4 := (hb12.block (w11.heap.size) (by first | (simp; done) | (simp; omega) | omega)).trans (rownew' _ _ _ _ (by simp)); have z12_4 : w11.heap.size < w12.heap.size := Nat.lt_of_lt_of_le (by first | (simp; done) | (simp; omega) | omega) hb12.size; have ne12_4 : ¬ w11.heap.size = w12.heap.size := (by omega); have en12_4 : ¬ w12.heap.size = w11.heap.size := (by omega); have c12_4_0 := rowcell R12_4 0; have c12_4_1 := rowcell R12_4 1; have c12_4_2 := rowcell R12_4 2; have c12_4_3 := rowcell R12_4 3; have c12_4_4 := rowcell R12_4 4; have c12_4_5 := rowcell R12_4 5; have cf12_4 := rowfree R12_4; simp only [List.getElem?_toArray, List.getElem?_cons_zero, List.getElem?_cons_succ] at c12_4_0 c12_4_1 c12_4_2 c12_4_3 c12_4_4 c12_4_5; have HR12_4 : Hid _ := R12_4; clear R12_4; have HB12 : Hid (Below _ _ _) := hb12; clear hb12)
        | (go_at_call_of 10 sb; go_must (refine (kD _).mono ?_); rintro e w13 ⟨rfl, hb13⟩; have R13_0 := (hb13.block (w.heap.size) (by first | (simp; done) | (simp; omega) | omega)).trans HR12_0.out; have z13_0 : w.heap.size < w13.heap.size := Nat.lt_of_lt_of_le (by first | (simp; done) | (simp; omega) | omega) hb13.size; have ne13_0 : ¬ w.heap.size = w13.heap.size := (by omega); have en13_0 : ¬ w13.heap.size = w.heap.size := (by omega); have c13_0_0 := rowcell R13_0 0; have c13_0_1 := rowcell R13_0 1; have c13_0_2 := rowcell R13_0 2; have c13_0_3 := rowcell R13_0 3; have c13_0_4 := rowcell R13_0 4; have c13_0_5 := rowcell R13_0 5; have cf13_0 := rowfree R13_0; simp only [List.getElem?_toArray, List.getElem?_cons_zero, List.getElem?_cons_succ] at c13_0_0 c13_0_1 c13_0_2 c13_0_3 c13_0_4 c13_0_5; have HR13_0 : Hid _ := R13_0; clear R13_0; have R13_1 := (hb13.block (m) (by first | (simp; done) | (simp; omega) | omega)).trans HR12_1.out; have z13_1 : m < w13.heap.size := Nat.lt_of_lt_of_le (by first | (simp; done) | (simp; omega) | omega) hb13.size; have ne13_1 : ¬ m = w13.heap.size := (by omega); have en13_1 : ¬ w13.heap.size = m := (by omega); have c13_1_0 := rowcell R13_1 0; have c13_1_1 := rowcell R13_1 1; have c13_1_2 := rowcell R13_1 2; have c13_1_3 := rowcell R13_1 3; have cf13_1 := rowfree R13_1; simp only [List.getElem?_toArray, List.getElem?_cons_zero, List.getElem?_cons_succ] at c13_1_0 c13_1_1 c13_1_2 c13_1_3; have HR13_1 : Hid _ := R13_1; clear R13_1; have R13_2 := (hb13.block (m2) (by first | (simp; done) | (simp; omega) | omega)).trans HR12_2.out; have z13_2 : m2 < w13.heap.size := Nat.lt_of_lt_of_le (by first | (simp; done) | (simp; omega) | omega) hb13.size; have ne13_2 : ¬ m2 = w13.heap.size := (by omega); have en13_2 : ¬ w13.heap.size = m2 := (by omega); have c13_2_0 := rowcell R13_2 0; have c13_2_1 := rowcell R13_2 1; have c13_2_2 := rowcell R13_2 2; have c13_2_3 := rowcell R13_2 3; have cf13_2 := rowfree R13_2; simp only [List.getElem?_toArray, List.getElem?_cons_zero, List.getElem?_cons_succ] at c13_2_0 c13_2_1 c13_2_2 c13_2_3; have HR13_2 : Hid _ := R13_2; clear R13_2; have R13_3 := (hb13.block (w10.heap.size) (by first | (simp; done) | (simp; omega) | omega)).trans HR12_3.out; have z13_3 : w10.heap.size < w13.heap.size := Nat.lt_of_lt_of_le (by first | (simp; done) | (simp; omega) | omega) hb13.size; have ne13_3 : ¬ w10.heap.size = w13.heap.size := (by omega); have en13_3 : ¬ w13.heap.size = w10.heap.size := (by omega); have c13_3_0 := rowcell R13_3 0; have c13_3_1 := rowcell R13_3 1; have c13_3_2 := rowcell R13_3 2; have c13_3_3 := rowcell R13_3 3; have c13_3_4 := rowcell R13_3 4; have c13_3_5 := rowcell R13_3 5; have cf13_3 := rowfree R13_3; simp only [List.getElem?_toArray, List.getElem?_cons_zero, List.getElem?_cons_succ] at c13_3_0 c13_3_1 c13_3_2 c13_3_3 c13_3_4 c13_3_5; have HR13_3 : Hid _ := R13_3; clear R13_3; have R13_4 := (hb13.block (w11.heap.size) (by first | (simp; done) | (simp; omega) | omega)).trans HR12_4.out; have z13_4 : w11.heap.size < w13.heap.size := Nat.lt_of_lt_of_le (by first | (simp; done) | (simp; omega) | omega) hb13.size; have ne13_4 : ¬ w11.heap.size = w13.heap.size := (by omega); have en13_4 : ¬ w13.heap.size = w11.heap.size := (by omega); have c13_4_0 := rowcell R13_4 0; have c13_4_1 := rowcell R13_4 1; have c13_4_2 := rowcell R13_4 2; have c13_4_3 := rowcell R13_4 3; have c13_4_4 := rowcell R13_4 4; have c13_4_5 := rowcell R13_4 5; have cf13_4 := rowfree R13_4; simp only [List.getElem?_toArray, List.getElem?_cons_zero, List.getElem?_cons_succ] at c13_4_0 c13_4_1 c13_4_2 c13_4_3 c13_4_4 c13_4_5; have HR13_4 : Hid _ := R13_4; clear R13_4; have HB13 : Hid (Below _ _ _) := hb13; clear hb13)
        | (go_at_call 7; go_must (refine (kpow _).mono ?_); rintro e wx ⟨rfl, hwx⟩; rw [hwx]; clear hwx wx))
      have D1 : (((P : Int) == 2147483647) = true) ∨ (((P : Int) == 2147483647) = false ∧ decide (ca < 0) = true) ∨ (((P : Int) == 2147483647) = false ∧ ca = 0 ∧ (((P : Int) % 2) == 0) = true) := by
        rcases Nat.decEq P 2147483647 with hp | hp
        · have e : ((P : Int) == 2147483647) = false := beq_eq_false_iff_ne.2 (by omega)
          rcases T1.out with h | h | ⟨h, h2⟩
          · exact absurd h hp
          · exact .inr (.inl ⟨e, decide_eq_true h⟩)
          · exact .inr (.inr ⟨e, h, beq_iff_eq.2 (by omega)⟩)
        · exact .inl (beq_iff_eq.2 (by omega))
      have D2 : (((P : Int) == 1) = true) ∨ (((P : Int) == 1) = false ∧ decide (0 < cb) = true) ∨ (((P : Int) == 1) = false ∧ cb = 0 ∧ (((P : Int) % 2) == 0) = true) := by
        rcases Nat.decEq P 1 with hp | hp
        · have e : ((P : Int) == 1) = false := beq_eq_false_iff_ne.2 (by omega)
          rcases T2.out with h | h | ⟨h, h2⟩
          · exact absurd h hp
          · exact .inr (.inl ⟨e, decide_eq_true h⟩)
          · exact .inr (.inr ⟨e, h, beq_iff_eq.2 (by omega)⟩)
        · exact .inl (beq_iff_eq.2 (by omega))
      have tm : (P : Int).tmod 2 = (P : Int) % 2 := Int.tmod_eq_emod_of_nonneg (Int.natCast_nonneg _)
      clear T1 T2 HP1
      rcases D1 with d1 | ⟨d1, d2⟩ | ⟨d1, rfl, d2⟩
      · rcases D2 with d3 | ⟨d3, d4⟩ | ⟨d3, rfl, d4⟩
        · go_wp2_with (go_at_call 7; go_must (refine (kpow _).mono ?_); rintro e wx ⟨rfl, hwx⟩; rw [hwx]; clear hwx wx)
          all_goals exact hQ.out _ _ ⟨by simp, cthen (cthen (cmore (cthen (cmore (cthen (cthen (cthen HB3.out HBA.out) HBC.out) HB10.out) _) HB11.out) _) HB12.out) HB13.out⟩
        · go_wp2_with (go_at_call 7; go_must (refine (kpow _).mono ?_); rintro e wx ⟨rfl, hwx⟩; rw [hwx]; clear hwx wx)
          all_goals exact hQ.out _ _ ⟨by simp, cthen (cthen (cmore (cthen (cmore (cthen (cthen (cthen HB3.out HBA.out) HBC.out) HB10.out) _) HB11.out) _) HB12.out) HB13.out⟩
        · go_wp2_with (go_at_call 7; go_must (refine (kpow _).mono ?_); rintro e wx ⟨rfl, hwx⟩; rw [hwx]; clear hwx wx)
          all_goals exact hQ.out _ _ ⟨by simp, cthen (cthen (cmore (cthen (cmore (cthen (cthen (cthen HB3.out HBA.out) HBC.out) HB10.out) _) HB11.out) _) HB12.out) HB13.out⟩
      · rcases D2 with d3 | ⟨d3, d4⟩ | ⟨d3, rfl, d4⟩
        · go_wp2_with (go_at_call 7; go_must (refine (kpow _).mono ?_); rintro e wx ⟨rfl, hwx⟩; rw [hwx]; clear hwx wx)
          all_goals exact hQ.out _ _ ⟨by simp, cthen (cthen (cmore (cthen (cmore (cthen (cthen (cthen HB3.out HBA.out) HBC.out) HB10.out) _) HB11.out) _) HB12.out) HB13.out⟩
        · go_wp2_with (go_at_call 7; go_must (refine (kpow _).mono ?_); rintro e wx ⟨rfl, hwx⟩; rw [hwx]; clear hwx wx)
          all_goals exact hQ.out _ _ ⟨by simp, cthen (cthen (cmore (cthen (cmore (cthen (cthen (cthen HB3.out HBA.out) HBC.out) HB10.out) _) HB11.out) _) HB12.out) HB13.out⟩
        · go_wp2_with (go_at_call 7; go_must (refine (kpow _).mono ?_); rintro e wx ⟨rfl, hwx⟩; rw [hwx]; clear hwx wx)
          all_goals exact hQ.out _ _ ⟨by simp, cthen (cthen (cmore (cthen (cmore (cthen (cthen (cthen HB3.out HBA.out) HBC.out) HB10.out) _) HB11.out) _) HB12.out) HB13.out⟩
      · rcases D2 with d3 | ⟨d3, d4⟩ | ⟨d3, rfl, d4⟩
        · go_wp2_with (go_at_call 7; go_must (refine (kpow _).mono ?_); rintro e wx ⟨rfl, hwx⟩; rw [hwx]; clear hwx wx)
          all_goals exact hQ.out _ _ ⟨by simp, cthen (cthen (cmore (cthen (cmore (cthen (cthen (cthen HB3.out HBA.out) HBC.out) HB10.out) _) HB11.out) _) HB12.out) HB13.out⟩
        · go_wp2_with (go_at_call 7; go_must (refine (kpow _).mono ?_); rintro e wx ⟨rfl, hwx⟩; rw [hwx]; clear hwx wx)
          all_goals exact hQ.out _ _ ⟨by simp, cthen (cthen (cmore (cthen (cmore (cthen (cthen (cthen HB3.out HBA.out) HBC.out) HB10.out) _) HB11.out) _) HB12.out) HB13.out⟩
        · go_wp2_with (go_at_call 7; go_must (refine (kpow _).mono ?_); rintro e wx ⟨rfl, hwx⟩; rw [hwx]; clear hwx wx)
          all_goals exact hQ.out _ _ ⟨by simp, cthen (cthen (cmore (cthen (cmore (cthen (cthen (cthen HB3.out HBA.out) HBC.out) HB10.out) _) HB11.out) _) HB12.out) HB13.out⟩
end Go.Proofs.Ytajlgpamcpgalab

namespace Go.Proofs.Ytajlgpamcpgalab
open Go.ChangeShapes Go.WideShapes Go.ChangeAt Go.RowKit
set_option linter.unusedVariables false
set_option linter.unusedSimpArgs false

section
variable {H : Type} {enc : TypeId × Value → H} {P : Program} {w : World} {base : Nat} {spare : Nat → Bool} {held : Bool}
theorem arr6 {α : Type} {cs : Array α} (h : cs.size = 6) : ∃ c0 c1 c2 c3 c4 c5, cs = #[c0, c1, c2, c3, c4, c5] := by
  obtain ⟨l⟩ := cs
  match l, h with
  | [c0, c1, c2, c3, c4, c5], _ => exact ⟨c0, c1, c2, c3, c4, c5, rfl⟩
theorem lst6 {α : Type} {l : List α} (h : l.length = 6) : ∃ c0 c1 c2 c3 c4 c5, l = [c0, c1, c2, c3, c4, c5] := by
  match l, h with
  | [c0, c1, c2, c3, c4, c5], _ => exact ⟨c0, c1, c2, c3, c4, c5, rfl⟩
theorem open_agg6 {r : Reach} {b0 : Nat} {t : TypeId} {f0 f1 f2 f3 f4 f5 : Field} {v : Value} {d : DataW H} {p : List MemPlace} (hs : P.underlying t = some (.struct #[f0, f1, f2, f3, f4, f5])) (hone : Deep.oneCellFields P #[f0, f1, f2, f3, f4, f5] = true) (hC : P.cellsOf t = 6)
    (hv : Value.okWide P w r b0 t v) (h : DataW.Trod enc P w base spare held t v d p) :
    ∃ (v0 v1 v2 v3 v4 v5 : Value) (y0 y1 y2 y3 y4 y5 : DataW H × List MemPlace) (n : Nat), v = .agg #[v0, v1, v2, v3, v4, v5] ∧ d = .agg [y0.1, y1.1, y2.1, y3.1, y4.1, y5.1] ∧ p = y0.2 ++ (y1.2 ++ (y2.2 ++ (y3.2 ++ (y4.2 ++ y5.2)))) ∧
      DataW.trod enc P w base spare held n f0.type [v0] = some y0 ∧ DataW.trod enc P w base spare held n f1.type [v1] = some y1 ∧ DataW.trod enc P w base spare held n f2.type [v2] = some y2 ∧ DataW.trod enc P w base spare held n f3.type [v3] = some y3 ∧ DataW.trod enc P w base spare held n f4.type [v4] = some y4 ∧ DataW.trod enc P w base spare held n f5.type [v5] = some y5 := by
  obtain ⟨cs, rfl, hsz⟩ := okWide_struct hs hv
  obtain ⟨c0, c1, c2, c3, c4, c5, rfl⟩ := arr6 (hsz.trans hC)
  obtain ⟨fuel, hf⟩ := h
  obtain ⟨xs, n, _, hx, _, hlen, hg⟩ := DataW.trod_struct hs hf
  obtain ⟨y0, y1, y2, y3, y4, y5, rfl⟩ := lst6 (l := xs) (by simpa using hlen)
  obtain ⟨o0, k0⟩ := Deep.hone_of hone 0 f0 rfl
  obtain ⟨o1, k1⟩ := Deep.hone_of hone 1 f1 rfl
  obtain ⟨o2, k2⟩ := Deep.hone_of hone 2 f2 rfl
  obtain ⟨o3, k3⟩ := Deep.hone_of hone 3 f3 rfl
  obtain ⟨o4, k4⟩ := Deep.hone_of hone 4 f4 rfl
  obtain ⟨o5, k5⟩ := Deep.hone_of hone 5 f5 rfl
  have g0 := hg 0 f0 rfl
  have g1 := hg 1 f1 rfl
  have g2 := hg 2 f2 rfl
  have g3 := hg 3 f3 rfl
  have g4 := hg 4 f4 rfl
  have g5 := hg 5 f5 rfl
  simp only [Prod.mk.injEq] at hx
  exact ⟨c0, c1, c2, c3, c4, c5, y0, y1, y2, y3, y4, y5, n, rfl, by rw [hx.1]; rfl, by rw [hx.2]; simp, by simpa [Value.cells, o0, k0] using g0, by simpa [Value.cells, o1, k1] using g1, by simpa [Value.cells, o2, k2] using g2, by simpa [Value.cells, o3, k3] using g3, by simpa [Value.cells, o4, k4] using g4, by simpa [Value.cells, o5, k5] using g5⟩
theorem shut_agg6 {t : TypeId} {f0 f1 f2 f3 f4 f5 : Field} {v0 v1 v2 v3 v4 v5 : Value} {y0 y1 y2 y3 y4 y5 : DataW H × List MemPlace} (hs : P.underlying t = some (.struct #[f0, f1, f2, f3, f4, f5])) (hone : Deep.oneCellFields P #[f0, f1, f2, f3, f4, f5] = true) (hC : P.cellsOf t = 6)
    (t0 : ∃ n, DataW.trod enc P w base spare held n f0.type [v0] = some y0) (t1 : ∃ n, DataW.trod enc P w base spare held n f1.type [v1] = some y1) (t2 : ∃ n, DataW.trod enc P w base spare held n f2.type [v2] = some y2) (t3 : ∃ n, DataW.trod enc P w base spare held n f3.type [v3] = some y3) (t4 : ∃ n, DataW.trod enc P w base spare held n f4.type [v4] = some y4) (t5 : ∃ n, DataW.trod enc P w base spare held n f5.type [v5] = some y5) :
    DataW.Trod enc P w base spare held t (.agg #[v0, v1, v2, v3, v4, v5]) (.agg [y0.1, y1.1, y2.1, y3.1, y4.1, y5.1]) (y0.2 ++ (y1.2 ++ (y2.2 ++ (y3.2 ++ (y4.2 ++ y5.2))))) := by
  obtain ⟨n0, t0⟩ := t0
  obtain ⟨n1, t1⟩ := t1
  obtain ⟨n2, t2⟩ := t2
  obtain ⟨n3, t3⟩ := t3
  obtain ⟨n4, t4⟩ := t4
  obtain ⟨n5, t5⟩ := t5
  obtain ⟨n, hn⟩ : ∃ n, n = n0 + n1 + n2 + n3 + n4 + n5 := ⟨_, rfl⟩
  obtain ⟨o0, k0⟩ := Deep.hone_of hone 0 f0 rfl
  obtain ⟨o1, k1⟩ := Deep.hone_of hone 1 f1 rfl
  obtain ⟨o2, k2⟩ := Deep.hone_of hone 2 f2 rfl
  obtain ⟨o3, k3⟩ := Deep.hone_of hone 3 f3 rfl
  obtain ⟨o4, k4⟩ := Deep.hone_of hone 4 f4 rfl
  obtain ⟨o5, k5⟩ := Deep.hone_of hone 5 f5 rfl
  have e0 := DataW.trod_le (show n0 ≤ n by omega) t0
  have e1 := DataW.trod_le (show n1 ≤ n by omega) t1
  have e2 := DataW.trod_le (show n2 ≤ n by omega) t2
  have e3 := DataW.trod_le (show n3 ≤ n by omega) t3
  have e4 := DataW.trod_le (show n4 ≤ n by omega) t4
  have e5 := DataW.trod_le (show n5 ≤ n by omega) t5
  have b0 : DataW.trod enc P w base spare held n f0.type ((([v0, v1, v2, v3, v4, v5] : List Value).drop f0.offset).take (P.cellsOf f0.type)) = some y0 := by simpa [o0, k0] using e0
  have b1 : DataW.trod enc P w base spare held n f1.type ((([v0, v1, v2, v3, v4, v5] : List Value).drop f1.offset).take (P.cellsOf f1.type)) = some y1 := by simpa [o1, k1] using e1
  have b2 : DataW.trod enc P w base spare held n f2.type ((([v0, v1, v2, v3, v4, v5] : List Value).drop f2.offset).take (P.cellsOf f2.type)) = some y2 := by simpa [o2, k2] using e2
  have b3 : DataW.trod enc P w base spare held n f3.type ((([v0, v1, v2, v3, v4, v5] : List Value).drop f3.offset).take (P.cellsOf f3.type)) = some y3 := by simpa [o3, k3] using e3
  have b4 : DataW.trod enc P w base spare held n f4.type ((([v0, v1, v2, v3, v4, v5] : List Value).drop f4.offset).take (P.cellsOf f4.type)) = some y4 := by simpa [o4, k4] using e4
  have b5 : DataW.trod enc P w base spare held n f5.type ((([v0, v1, v2, v3, v4, v5] : List Value).drop f5.offset).take (P.cellsOf f5.type)) = some y5 := by simpa [o5, k5] using e5
  have ts := trod_struct_mk (enc := enc) (w := w) (base := base) (spare := spare) (held := held) (n := n) (cs := [v0, v1, v2, v3, v4, v5]) (xs := [y0, y1, y2, y3, y4, y5]) hs (by simp [hC]) (by simp [b0, b1, b2, b3, b4, b5])
  exact ⟨_, by simpa [Value.cells] using ts⟩
theorem arr8 {α : Type} {cs : Array α} (h : cs.size = 8) : ∃ c0 c1 c2 c3 c4 c5 c6 c7, cs = #[c0, c1, c2, c3, c4, c5, c6, c7] := by
  obtain ⟨l⟩ := cs
  match l, h with
  | [c0, c1, c2, c3, c4, c5, c6, c7], _ => exact ⟨c0, c1, c2, c3, c4, c5, c6, c7, rfl⟩
theorem lst8 {α : Type} {l : List α} (h : l.length = 8) : ∃ c0 c1 c2 c3 c4 c5 c6 c7, l = [c0, c1, c2, c3, c4, c5, c6, c7] := by
  match l, h with
  | [c0, c1, c2, c3, c4, c5, c6, c7], _ => exact ⟨c0, c1, c2, c3, c4, c5, c6, c7, rfl⟩
theorem open_agg8 {r : Reach} {b0 : Nat} {t : TypeId} {f0 f1 f2 f3 f4 f5 f6 f7 : Field} {v : Value} {d : DataW H} {p : List MemPlace} (hs : P.underlying t = some (.struct #[f0, f1, f2, f3, f4, f5, f6, f7])) (hone : Deep.oneCellFields P #[f0, f1, f2, f3, f4, f5, f6, f7] = true) (hC : P.cellsOf t = 8)
    (hv : Value.okWide P w r b0 t v) (h : DataW.Trod enc P w base spare held t v d p) :
    ∃ (v0 v1 v2 v3 v4 v5 v6 v7 : Value) (y0 y1 y2 y3 y4 y5 y6 y7 : DataW H × List MemPlace) (n : Nat), v = .agg #[v0, v1, v2, v3, v4, v5, v6, v7] ∧ d = .agg [y0.1, y1.1, y2.1, y3.1, y4.1, y5.1, y6.1, y7.1] ∧ p = y0.2 ++ (y1.2 ++ (y2.2 ++ (y3.2 ++ (y4.2 ++ (y5.2 ++ (y6.2 ++ y7.2)))))) ∧
      DataW.trod enc P w base spare held n f0.type [v0] = some y0 ∧ DataW.trod enc P w base spare held n f1.type [v1] = some y1 ∧ DataW.trod enc P w base spare held n f2.type [v2] = some y2 ∧ DataW.trod enc P w base spare held n f3.type [v3] = some y3 ∧ DataW.trod enc P w base spare held n f4.type [v4] = some y4 ∧ DataW.trod enc P w base spare held n f5.type [v5] = some y5 ∧ DataW.trod enc P w base spare held n f6.type [v6] = some y6 ∧ DataW.trod enc P w base spare held n f7.type [v7] = some y7 := by
  obtain ⟨cs, rfl, hsz⟩ := okWide_struct hs hv
  obtain ⟨c0, c1, c2, c3, c4, c5, c6, c7, rfl⟩ := arr8 (hsz.trans hC)
  obtain ⟨fuel, hf⟩ := h
  obtain ⟨xs, n, _, hx, _, hlen, hg⟩ := DataW.trod_struct hs hf
  obtain ⟨y0, y1, y2, y3, y4, y5, y6, y7, rfl⟩ := lst8 (l := xs) (by simpa using hlen)
  obtain ⟨o0, k0⟩ := Deep.hone_of hone 0 f0 rfl
  obtain ⟨o1, k1⟩ := Deep.hone_of hone 1 f1 rfl
  obtain ⟨o2, k2⟩ := Deep.hone_of hone 2 f2 rfl
  obtain ⟨o3, k3⟩ := Deep.hone_of hone 3 f3 rfl
  obtain ⟨o4, k4⟩ := Deep.hone_of hone 4 f4 rfl
  obtain ⟨o5, k5⟩ := Deep.hone_of hone 5 f5 rfl
  obtain ⟨o6, k6⟩ := Deep.hone_of hone 6 f6 rfl
  obtain ⟨o7, k7⟩ := Deep.hone_of hone 7 f7 rfl
  have g0 := hg 0 f0 rfl
  have g1 := hg 1 f1 rfl
  have g2 := hg 2 f2 rfl
  have g3 := hg 3 f3 rfl
  have g4 := hg 4 f4 rfl
  have g5 := hg 5 f5 rfl
  have g6 := hg 6 f6 rfl
  have g7 := hg 7 f7 rfl
  simp only [Prod.mk.injEq] at hx
  exact ⟨c0, c1, c2, c3, c4, c5, c6, c7, y0, y1, y2, y3, y4, y5, y6, y7, n, rfl, by rw [hx.1]; rfl, by rw [hx.2]; simp, by simpa [Value.cells, o0, k0] using g0, by simpa [Value.cells, o1, k1] using g1, by simpa [Value.cells, o2, k2] using g2, by simpa [Value.cells, o3, k3] using g3, by simpa [Value.cells, o4, k4] using g4, by simpa [Value.cells, o5, k5] using g5, by simpa [Value.cells, o6, k6] using g6, by simpa [Value.cells, o7, k7] using g7⟩
theorem shut_agg8 {t : TypeId} {f0 f1 f2 f3 f4 f5 f6 f7 : Field} {v0 v1 v2 v3 v4 v5 v6 v7 : Value} {y0 y1 y2 y3 y4 y5 y6 y7 : DataW H × List MemPlace} (hs : P.underlying t = some (.struct #[f0, f1, f2, f3, f4, f5, f6, f7])) (hone : Deep.oneCellFields P #[f0, f1, f2, f3, f4, f5, f6, f7] = true) (hC : P.cellsOf t = 8)
    (t0 : ∃ n, DataW.trod enc P w base spare held n f0.type [v0] = some y0) (t1 : ∃ n, DataW.trod enc P w base spare held n f1.type [v1] = some y1) (t2 : ∃ n, DataW.trod enc P w base spare held n f2.type [v2] = some y2) (t3 : ∃ n, DataW.trod enc P w base spare held n f3.type [v3] = some y3) (t4 : ∃ n, DataW.trod enc P w base spare held n f4.type [v4] = some y4) (t5 : ∃ n, DataW.trod enc P w base spare held n f5.type [v5] = some y5) (t6 : ∃ n, DataW.trod enc P w base spare held n f6.type [v6] = some y6) (t7 : ∃ n, DataW.trod enc P w base spare held n f7.type [v7] = some y7) :
    DataW.Trod enc P w base spare held t (.agg #[v0, v1, v2, v3, v4, v5, v6, v7]) (.agg [y0.1, y1.1, y2.1, y3.1, y4.1, y5.1, y6.1, y7.1]) (y0.2 ++ (y1.2 ++ (y2.2 ++ (y3.2 ++ (y4.2 ++ (y5.2 ++ (y6.2 ++ y7.2))))))) := by
  obtain ⟨n0, t0⟩ := t0
  obtain ⟨n1, t1⟩ := t1
  obtain ⟨n2, t2⟩ := t2
  obtain ⟨n3, t3⟩ := t3
  obtain ⟨n4, t4⟩ := t4
  obtain ⟨n5, t5⟩ := t5
  obtain ⟨n6, t6⟩ := t6
  obtain ⟨n7, t7⟩ := t7
  obtain ⟨n, hn⟩ : ∃ n, n = n0 + n1 + n2 + n3 + n4 + n5 + n6 + n7 := ⟨_, rfl⟩
  obtain ⟨o0, k0⟩ := Deep.hone_of hone 0 f0 rfl
  obtain ⟨o1, k1⟩ := Deep.hone_of hone 1 f1 rfl
  obtain ⟨o2, k2⟩ := Deep.hone_of hone 2 f2 rfl
  obtain ⟨o3, k3⟩ := Deep.hone_of hone 3 f3 rfl
  obtain ⟨o4, k4⟩ := Deep.hone_of hone 4 f4 rfl
  obtain ⟨o5, k5⟩ := Deep.hone_of hone 5 f5 rfl
  obtain ⟨o6, k6⟩ := Deep.hone_of hone 6 f6 rfl
  obtain ⟨o7, k7⟩ := Deep.hone_of hone 7 f7 rfl
  have e0 := DataW.trod_le (show n0 ≤ n by omega) t0
  have e1 := DataW.trod_le (show n1 ≤ n by omega) t1
  have e2 := DataW.trod_le (show n2 ≤ n by omega) t2
  have e3 := DataW.trod_le (show n3 ≤ n by omega) t3
  have e4 := DataW.trod_le (show n4 ≤ n by omega) t4
  have e5 := DataW.trod_le (show n5 ≤ n by omega) t5
  have e6 := DataW.trod_le (show n6 ≤ n by omega) t6
  have e7 := DataW.trod_le (show n7 ≤ n by omega) t7
  have b0 : DataW.trod enc P w base spare held n f0.type ((([v0, v1, v2, v3, v4, v5, v6, v7] : List Value).drop f0.offset).take (P.cellsOf f0.type)) = some y0 := by simpa [o0, k0] using e0
  have b1 : DataW.trod enc P w base spare held n f1.type ((([v0, v1, v2, v3, v4, v5, v6, v7] : List Value).drop f1.offset).take (P.cellsOf f1.type)) = some y1 := by simpa [o1, k1] using e1
  have b2 : DataW.trod enc P w base spare held n f2.type ((([v0, v1, v2, v3, v4, v5, v6, v7] : List Value).drop f2.offset).take (P.cellsOf f2.type)) = some y2 := by simpa [o2, k2] using e2
  have b3 : DataW.trod enc P w base spare held n f3.type ((([v0, v1, v2, v3, v4, v5, v6, v7] : List Value).drop f3.offset).take (P.cellsOf f3.type)) = some y3 := by simpa [o3, k3] using e3
  have b4 : DataW.trod enc P w base spare held n f4.type ((([v0, v1, v2, v3, v4, v5, v6, v7] : List Value).drop f4.offset).take (P.cellsOf f4.type)) = some y4 := by simpa [o4, k4] using e4
  have b5 : DataW.trod enc P w base spare held n f5.type ((([v0, v1, v2, v3, v4, v5, v6, v7] : List Value).drop f5.offset).take (P.cellsOf f5.type)) = some y5 := by simpa [o5, k5] using e5
  have b6 : DataW.trod enc P w base spare held n f6.type ((([v0, v1, v2, v3, v4, v5, v6, v7] : List Value).drop f6.offset).take (P.cellsOf f6.type)) = some y6 := by simpa [o6, k6] using e6
  have b7 : DataW.trod enc P w base spare held n f7.type ((([v0, v1, v2, v3, v4, v5, v6, v7] : List Value).drop f7.offset).take (P.cellsOf f7.type)) = some y7 := by simpa [o7, k7] using e7
  have ts := trod_struct_mk (enc := enc) (w := w) (base := base) (spare := spare) (held := held) (n := n) (cs := [v0, v1, v2, v3, v4, v5, v6, v7]) (xs := [y0, y1, y2, y3, y4, y5, y6, y7]) hs (by simp [hC]) (by simp [b0, b1, b2, b3, b4, b5, b6, b7])
  exact ⟨_, by simpa [Value.cells] using ts⟩
end
end Go.Proofs.Ytajlgpamcpgalab
