import Derived.Test.YtheliihkkoohnabGreatJoin5
import Derived.Test.YtheliihkkoohnabGreatJoin6
import Derived.Test.YtheliihkkoohnabGreatJoin3
namespace Go.Proofs.YtheliihkkoohnabGreat
open Go.ChangeShapes Go.WideShapes Go.ChangeAt Go.RowKit
set_option linter.unusedVariables false
set_option linter.unusedSimpArgs false
set_option maxRecDepth 100000

/-! ### two arrays of five words, compared -/
theorem run_equalIn_arr5 {P : Program} (w : World) (d : Nat) (t e : TypeId) (a0 a1 a2 a3 a4 b0 b1 b2 b3 b4 : Int) (ht : P.underlying t = some (.array 5 e)) (he : P.underlying e = some (.int .u64)) (hz : ∀ w, (sizeOf e).run P w = .ok 1 w) :
    (Op.equalIn (d + 2) t (.agg #[.int .u64 a0, .int .u64 a1, .int .u64 a2, .int .u64 a3, .int .u64 a4]) (.agg #[.int .u64 b0, .int .u64 b1, .int .u64 b2, .int .u64 b3, .int .u64 b4])).run P w = .ok (decide (a0 = b0) && decide (a1 = b1) && decide (a2 = b2) && decide (a3 = b3) && decide (a4 = b4)) w := by
  have hk := fun w a b => run_equalIn_int (P := P) w d e .u64 .u64 a b he
  have hg : ∀ w, (isAgg e).run P w = .ok false w := fun w => by simp [isAgg, run_underlying he]
  rw [Op.equalIn]
  simp [Sem.run_bind, run_underlying ht, List.range', go_sem, hk, hz, hg]
  by_cases h0 : a0 = b0 <;> by_cases h1 : a1 = b1 <;> by_cases h2 : a2 = b2 <;> by_cases h3 : a3 = b3 <;> by_cases h4 : a4 = b4 <;> simp [h0, h1, h2, h3, h4]
theorem eql5_words (p0 p1 p2 p3 p4 : Int) (w : World) :
    (Op.equalIn 10000 134 (.agg #[.int .u64 p0, .int .u64 p1, .int .u64 p2, .int .u64 p3, .int .u64 p4]) (.agg #[.int .u64 0, .int .u64 0, .int .u64 0, .int .u64 0, .int .u64 0])).run Tryz.prog w = .ok (decide (p0 = 0) && decide (p1 = 0) && decide (p2 = 0) && decide (p3 = 0) && decide (p4 = 0)) w :=
  run_equalIn_arr5 w 9998 _ 22 p0 p1 p2 p3 p4 0 0 0 0 0 Tryz.underlying134 Tryz.underlying22 (fun w => by simp [go_sem, sizeOf]; rfl)
/-! ### two reals -/
set_option maxHeartbeats 8000000 in
theorem freals_stay_same (ng : Bool) (sg : Int) (hg lg : Nat) (nl : Bool) (sl : Int) (hl ll : Nat) (zz D E : Int) (kk : Nat) (a0 a1 a2 a3 a4 y0 y1 y2 y3 y4 p0 p1 p2 p3 p4 : Nat) (r0 r1 r2 r3 r4 o o2 : Nat) (uu vv sc : Int) (k : Nat) (t : Bool) (K : Int) (B : Bool) (S : Int) (H L : Nat) (T : Bool)
    (k0 : ∀ w, Calls Tryz.prog 83 #[exV 1 ng sg hg lg false, exV 1 nl sl hl ll false] w fun e w' => e = .returned (.int .i64 zz) ∧ Below w.heap.size w w')
    (hz : decide (zz < 0) = false)
    (k1 : ∀ w, Calls Tryz.prog 84 #[.agg #[.int .u64 hg, .int .u64 lg], .int .i64 191] w fun e w' => e = .returned (.agg #[.int .u64 a0, .int .u64 a1, .int .u64 a2, .int .u64 a3, .int .u64 a4]) ∧ Below w.heap.size w w')
    (q1 : IntKind.i64.wrap (sg - sl) = D) (q2 : IntKind.i64.wrap (191 - D) = E) (q3 : (if E < 0 then 0 else E) = (kk : Int))
    (k2 : ∀ w, Calls Tryz.prog 84 #[.agg #[.int .u64 hl, .int .u64 ll], .int .i64 kk] w fun e w' => e = .returned (.agg #[.int .u64 y0, .int .u64 y1, .int .u64 y2, .int .u64 y3, .int .u64 y4]) ∧ Below w.heap.size w w')
    (k3 : ∀ w, Calls Tryz.prog 86 #[.agg #[.int .u64 a0, .int .u64 a1, .int .u64 a2, .int .u64 a3, .int .u64 a4], .agg #[.int .u64 y0, .int .u64 y1, .int .u64 y2, .int .u64 y3, .int .u64 y4]] w fun e w' => e = .returned (.agg #[.int .u64 p0, .int .u64 p1, .int .u64 p2, .int .u64 p3, .int .u64 p4]) ∧ Below w.heap.size w w')
    (hs : (ng == nl) = true)
    (h0 : (decide ((p0 : Int) = 0) && decide ((p1 : Int) = 0) && decide ((p2 : Int) = 0) && decide ((p3 : Int) = 0) && decide ((p4 : Int) = 0)) = false)
    (k5 : ∀ w, Calls Tryz.prog 88 #[.agg #[.int .u64 p0, .int .u64 p1, .int .u64 p2, .int .u64 p3, .int .u64 p4]] w fun e w' => e = .returned (.tuple #[.agg #[.int .u64 r0, .int .u64 r1, .int .u64 r2, .int .u64 r3, .int .u64 r4], .int .i64 k]) ∧ Below w.heap.size w w')
    (q4 : IntKind.i64.wrap (sg + 1) = uu) (q5 : IntKind.i64.wrap (uu - (k : Int)) = vv) (q8 : IntKind.i64.wrap (vv - 127) = sc) (q6 : bits BinOp.or IntKind.u64 (r2 : Int) (r1 : Int) = (o : Int)) (q9 : bits BinOp.or IntKind.u64 (o : Int) (r0 : Int) = (o2 : Int)) (q7 : ((o2 : Int) != 0) = t)
    (k6 : ∀ w, Calls Tryz.prog 56 #[.bool ng, .int .u64 r4, .int .u64 r3, .int .i64 sc, .bool t] w fun e w' => e = .returned (.tuple #[exV K B S H L T, .nilIface]) ∧ Below w.heap.size w w') (w : World) :
    Calls Tryz.prog 60 #[exV 1 ng sg hg lg false, exV 1 nl sl hl ll false] w fun e w' => e = .returned (.tuple #[exV K B S H L T, .nilIface]) ∧ Below w.heap.size w w' := by
  have dg := fdigits_any 1 ng sg hg lg false
  have dl := fdigits_any 1 nl sl hl ll false
  unfold exV at *
  have heq := eql5_words p0 p1 p2 p3 p4
  rw [h0] at heq
  have v0 : IntKind.i64.wrap 0 = 0 := rfl
  have v1 : IntKind.i64.wrap 1 = 1 := rfl
  have v2 : IntKind.i64.wrap 2 = 2 := rfl
  have v3 : IntKind.i64.wrap 3 = 3 := rfl
  have v4 : IntKind.i64.wrap 4 = 4 := rfl
  refine cps fun Q hQ => ?_
  go_enter Tryz.func60, Tryz.ntmps60
  go_upto_region 3 with (go_at_call 83; go_must (refine (k0 _).mono ?_); rintro e w1 ⟨rfl, hb1⟩; have R1_0 := (hb1.block (w.heap.size) (by first | (simp; done) | (simp; omega) | omega)).trans ((Below.heap_alloc _ _ _ (by first | (simp; done) | (simp; omega) | omega)).trans ((Below.heap_alloc _ _ _ (by first | (simp; done) | (simp; omega) | omega)).trans (rownew' _ _ _ _ (by simp)))); have z1_0 : w.heap.size < w1.heap.size := Nat.lt_of_lt_of_le (by first | (simp; done) | (simp; omega) | omega) hb1.size; have c1_0_0 := rowcell R1_0 0; have c1_0_1 := rowcell R1_0 1; have c1_0_2 := rowcell R1_0 2; have c1_0_3 := rowcell R1_0 3; have c1_0_4 := rowcell R1_0 4; have c1_0_5 := rowcell R1_0 5; simp only [List.getElem?_toArray, List.getElem?_cons_zero, List.getElem?_cons_succ] at c1_0_0 c1_0_1 c1_0_2 c1_0_3 c1_0_4 c1_0_5; have HR1_0 : Hid _ := R1_0; clear R1_0; have R1_1 := (hb1.block (w.heap.size + 1) (by first | (simp; done) | (simp; omega) | omega)).trans ((Below.heap_alloc _ _ _ (by first | (simp; done) | (simp; omega) | omega)).trans (rownew' _ _ _ _ (by simp))); have z1_1 : w.heap.size + 1 < w1.heap.size := Nat.lt_of_lt_of_le (by first | (simp; done) | (simp; omega) | omega) hb1.size; have c1_1_0 := rowcell R1_1 0; have c1_1_1 := rowcell R1_1 1; have c1_1_2 := rowcell R1_1 2; have c1_1_3 := rowcell R1_1 3; have c1_1_4 := rowcell R1_1 4; have c1_1_5 := rowcell R1_1 5; simp only [List.getElem?_toArray, List.getElem?_cons_zero, List.getElem?_cons_succ] at c1_1_0 c1_1_1 c1_1_2 c1_1_3 c1_1_4 c1_1_5; have HR1_1 : Hid _ := R1_1; clear R1_1; have R1_2 := (hb1.block (w.heap.size + 1 + 1) (by first | (simp; done) | (simp; omega) | omega)).trans (rownew' _ _ _ _ (by simp)); have z1_2 : w.heap.size + 1 + 1 < w1.heap.size := Nat.lt_of_lt_of_le (by first | (simp; done) | (simp; omega) | omega) hb1.size; have HR1_2 : Hid _ := R1_2; clear R1_2; have HB1 : Hid (Below _ _ _) := hb1; clear hb1; have fr0 := rowfree HR1_0.out; have fr1 := rowfree HR1_1.out; have fr2 := rowfree HR1_2.out)
  have HBW : Hid (Below w.heap.size w w1) := cthen (cmore (cmore (cmore (Below.refl _ _) _) _) _) HB1.out
  clear c1_0_0 c1_0_1 c1_0_2 c1_0_3 c1_0_4 c1_0_5 c1_1_0 c1_1_1 c1_1_2 c1_1_3 c1_1_4 c1_1_5 fr0 fr1 fr2
  have x0_ := rowcell HR1_0.out 0
  have x1_ := rowcell HR1_0.out 1
  have x2_ := rowcell HR1_0.out 2
  have x3_ := rowcell HR1_0.out 3
  have x4_ := rowcell HR1_0.out 4
  have x5_ := rowcell HR1_0.out 5
  simp only [List.getElem?_toArray, List.getElem?_cons_zero, List.getElem?_cons_succ] at x0_ x1_ x2_ x3_ x4_ x5_
  go_upto_region 4 with (first
    | (go_at_call 84; have chk := HB2; go_must (refine (k1 _).mono ?_); rintro e w3 ⟨rfl, hb3⟩; have R3_0 := (hb3.block (w.heap.size) (by first | (simp; done) | (simp; omega) | omega)).trans HR2_0.out; have z3_0 : w.heap.size < w3.heap.size := Nat.lt_of_lt_of_le (by first | (simp; done) | (simp; omega) | omega) hb3.size; have HR3_0 : Hid _ := R3_0; clear R3_0; have R3_1 := (hb3.block (w.heap.size + 1) (by first | (simp; done) | (simp; omega) | omega)).trans HR2_1.out; have z3_1 : w.heap.size + 1 < w3.heap.size := Nat.lt_of_lt_of_le (by first | (simp; done) | (simp; omega) | omega) hb3.size; have HR3_1 : Hid _ := R3_1; clear R3_1; have R3_2 := (hb3.block (w.heap.size + 1 + 1) (by first | (simp; done) | (simp; omega) | omega)).trans HR2_2.out; have z3_2 : w.heap.size + 1 + 1 < w3.heap.size := Nat.lt_of_lt_of_le (by first | (simp; done) | (simp; omega) | omega) hb3.size; have HR3_2 : Hid _ := R3_2; clear R3_2; have HB3 : Hid (Below _ _ _) := hb3; clear hb3)
    | (go_at_call 85; go_must (refine (dg _).mono ?_); rintro e w2 ⟨rfl, hb2⟩; have R2_0 := (hb2.block (w.heap.size) (by first | (simp; done) | (simp; omega) | omega)).trans HR1_0.out; have z2_0 : w.heap.size < w2.heap.size := Nat.lt_of_lt_of_le (by first | (simp; done) | (simp; omega) | omega) hb2.size; have HR2_0 : Hid _ := R2_0; clear R2_0; have R2_1 := (hb2.block (w.heap.size + 1) (by first | (simp; done) | (simp; omega) | omega)).trans HR1_1.out; have z2_1 : w.heap.size + 1 < w2.heap.size := Nat.lt_of_lt_of_le (by first | (simp; done) | (simp; omega) | omega) hb2.size; have HR2_1 : Hid _ := R2_1; clear R2_1; have R2_2 := (hb2.block (w.heap.size + 1 + 1) (by first | (simp; done) | (simp; omega) | omega)).trans HR1_2.out; have z2_2 : w.heap.size + 1 + 1 < w2.heap.size := Nat.lt_of_lt_of_le (by first | (simp; done) | (simp; omega) | omega) hb2.size; have HR2_2 : Hid _ := R2_2; clear R2_2; have HB2 : Hid (Below _ _ _) := hb2; clear hb2))
  clear x0_ x1_ x2_ x3_ x4_ x5_
  generalize hw4 : World.alloc w3 _ = w4
  have HR4_0 := (show Hid _ from (by rw [← hw4]; exact (Below.heap_alloc _ _ _ (by omega)).trans HR3_0.out : w4.heap[w.heap.size]? = some (.cells #[.int .i64 1, .bool ng, .int .i64 sg, .int .u64 hg, .int .u64 lg, .bool false] 59 (0, 0))))
  have HR4_1 := (show Hid _ from (by rw [← hw4]; exact (Below.heap_alloc _ _ _ (by omega)).trans HR3_1.out : w4.heap[w.heap.size + 1]? = some (.cells #[.int .i64 1, .bool nl, .int .i64 sl, .int .u64 hl, .int .u64 ll, .bool false] 59 (0, 0))))
  have HR4_2 := (show Hid _ from (by rw [← hw4]; exact (Below.heap_alloc _ _ _ (by omega)).trans HR3_2.out : w4.heap[w.heap.size + 1 + 1]? = some (.cells #[.int .i64 0, .bool false, .int .i64 0, .int .u64 0, .int .u64 0, .bool false] 59 (0, 0))))
  have HR4_3 := (show Hid _ from (by rw [← hw4]; exact rownew _ _ _ : w4.heap[w3.heap.size]? = some (.cells #[.int .u64 a0, .int .u64 a1, .int .u64 a2, .int .u64 a3, .int .u64 a4] 134 (0, 0))))
  have HBX : Hid (Below w.heap.size w w4) := by show Below _ _ _; rw [← hw4]; exact cmore (cthen (cthen (HBW.out) HB2.out) HB3.out) _
  clear hw4
  have y4_0 : w.heap.size < w4.heap.size := rowlt HR4_0.out
  have y4_1 : w.heap.size + 1 < w4.heap.size := rowlt HR4_1.out
  have y4_2 : w.heap.size + 1 + 1 < w4.heap.size := rowlt HR4_2.out
  have y4_3 : w3.heap.size < w4.heap.size := rowlt HR4_3.out
  have cls : ∀ V, Below w4.heap.size w4 V → V.cell? ⟨w.heap.size, 2, none⟩ = some (.int .i64 sg) ∧ V.cell? ⟨w.heap.size + 1, 0, none⟩ = some (.int .i64 1) ∧ V.cell? ⟨w.heap.size + 1, 1, none⟩ = some (.bool nl) ∧ V.cell? ⟨w.heap.size + 1, 2, none⟩ = some (.int .i64 sl) ∧ V.cell? ⟨w.heap.size + 1, 3, none⟩ = some (.int .u64 hl) ∧ V.cell? ⟨w.heap.size + 1, 4, none⟩ = some (.int .u64 ll) ∧ V.cell? ⟨w.heap.size + 1, 5, none⟩ = some (.bool false) := fun V hV => by
    have q0 := (hV.block (w.heap.size) y4_0).trans HR4_0.out
    have q1 := (hV.block (w.heap.size + 1) y4_1).trans HR4_1.out
    exact ⟨rowcell q0 2, rowcell q1 0, rowcell q1 1, rowcell q1 2, rowcell q1 3, rowcell q1 4, rowcell q1 5⟩
  have B4 : Below w4.heap.size w4 w4 := Below.refl _ _
  go_cut [7] from 19 (fun s7 wx => ∃ n : Nat, s7 = .pointer (some ⟨n, 0, none⟩) ∧ Hid (Below w4.heap.size w4 wx) ∧ w4.heap.size ≤ n ∧ Hid (wx.heap[n]? = some (.cells #[.int .u64 y0, .int .u64 y1, .int .u64 y2, .int .u64 y3, .int .u64 y4] 134 (0, 0))))
  case first =>
    refine wpC_region (fun V => V.cell? ⟨w.heap.size, 2, none⟩ = some (.int .i64 sg) ∧ V.cell? ⟨w.heap.size + 1, 0, none⟩ = some (.int .i64 1) ∧ V.cell? ⟨w.heap.size + 1, 1, none⟩ = some (.bool nl) ∧ V.cell? ⟨w.heap.size + 1, 2, none⟩ = some (.int .i64 sl) ∧ V.cell? ⟨w.heap.size + 1, 3, none⟩ = some (.int .u64 hl) ∧ V.cell? ⟨w.heap.size + 1, 4, none⟩ = some (.int .u64 ll) ∧ V.cell? ⟨w.heap.size + 1, 5, none⟩ = some (.bool false)) (by kernel_rfl) ?_
    refine wpC_take 0 (v := ?_) rfl (by kernel_rfl) (fun _ _ _ h => h) (by kernel_rfl) ?_ ?_; rotate_left; · (intro wC hC; obtain ⟨d0, d1, d2, d3, d4, d5, d6⟩ := hC; go_simp <;> with_reducible rfl)
    refine wpC_take 2 (v := ?_) rfl (by kernel_rfl) (fun _ _ _ h => h) (by kernel_rfl) ?_ ?_; rotate_left; · (intro wC hC; obtain ⟨d0, d1, d2, d3, d4, d5, d6⟩ := hC; go_simp <;> with_reducible rfl)
    refine wpC_take 3 (v := ?_) rfl (by kernel_rfl) (fun _ _ _ h => h) (by kernel_rfl) ?_ ?_; rotate_left; · (intro wC hC; obtain ⟨d0, d1, d2, d3, d4, d5, d6⟩ := hC; go_simp <;> with_reducible rfl)
    refine wpC_take 4 (v := ?_) rfl (by kernel_rfl) (fun _ _ _ h => h) (by kernel_rfl) ?_ ?_; rotate_left; · (intro wC hC; obtain ⟨d0, d1, d2, d3, d4, d5, d6⟩ := hC; go_simp <;> with_reducible rfl)
    refine wpC_take 5 (v := ?_) rfl (by kernel_rfl) (fun _ _ _ h => h) (by kernel_rfl) ?_ ?_; rotate_left; · (intro wC hC; obtain ⟨d0, d1, d2, d3, d4, d5, d6⟩ := hC; go_simp <;> with_reducible rfl)
    refine wpC_take 6 (v := ?_) rfl (by kernel_rfl) (fun _ _ _ h => h) (by kernel_rfl) ?_ ?_; rotate_left; · (intro wC hC; obtain ⟨d0, d1, d2, d3, d4, d5, d6⟩ := hC; go_simp <;> with_reducible rfl)
    refine wpC_take 7 (v := ?_) rfl (by kernel_rfl) (fun _ _ _ h => h) (by kernel_rfl) ?_ ?_; rotate_left; · (intro wC hC; obtain ⟨d0, d1, d2, d3, d4, d5, d6⟩ := hC; go_simp <;> with_reducible rfl)
    refine wpC_take 8 (v := ?_) rfl (by kernel_rfl) (fun _ _ _ h => h) (by kernel_rfl) ?_ ?_; rotate_left; · (intro wC hC; obtain ⟨d0, d1, d2, d3, d4, d5, d6⟩ := hC; go_simp <;> with_reducible rfl)
    refine wpC_two 1 10 rfl rfl (by kernel_rfl) (by kernel_rfl) (by kernel_rfl) (cls _ (bdrew B4)) (fun K hK => ?_) (fun K hK => ?_)
    · skip
      go_simp
      go_wp2_with ((go_at_call 85; refine (dl _).mono ?_; rintro e w5 ⟨rfl, hb5⟩; have B5 := bthen (bdrew B4) hb5))
      try (refine hK _ _ ?_; clear hK K)
      refine wpC_two 9 10 rfl rfl (by kernel_rfl) (by kernel_rfl) (by kernel_rfl) (cls _ B5) (fun K hK => ?_) (fun K hK => ?_)
      · skip
        go_simp
        go_wp2_with ((go_at_call 84; refine (k2 _).mono ?_; rintro e w6 ⟨rfl, hb6⟩; have B6 := bthen (B5) hb6))
        try (refine hK _ _ ?_; clear hK K)
        refine wpC_step 10 rfl (by kernel_rfl) (by kernel_rfl) (cls _ B6) (fun K hK => ?_)
        go_simp
        try (refine hK _ _ ?_; clear hK K)
        refine wpC_step 11 rfl (by kernel_rfl) (by kernel_rfl) (cls _ (bmore B6 _)) (fun K hK => ?_)
        go_simp
        try (refine hK _ _ ?_; clear hK K)
        refine wpC_done (by kernel_rfl) (cls _ (bmore B6 _)) ?_
        go_wp2_with fail
        go_meet
        case rel => exact ⟨_, rfl, bmore B6 _, B6.size, rownew _ _ _⟩
      · skip
        go_simp
        try (refine hK _ _ ?_; clear hK K)
        refine wpC_step 9 rfl (by kernel_rfl) (by kernel_rfl) (cls _ (bmore B5 _)) (fun K hK => ?_)
        go_simp
        go_wp2_with ((go_at_call 84; refine (k2 _).mono ?_; rintro e w6 ⟨rfl, hb6⟩; have B6 := bthen (bmore B5 _) hb6; have R6 := (hb6.block (w5.heap.size) (by simp)).trans (rownew _ _ _); have rf := rowfree R6; have rl := rowlt R6; have rc0 := rowcell R6 0; have rc1 := rowcell R6 1; have rc2 := rowcell R6 2; have rc3 := rowcell R6 3; have rc4 := rowcell R6 4; simp only [List.getElem?_toArray, List.getElem?_cons_zero, List.getElem?_cons_succ] at rc0 rc1 rc2 rc3 rc4))
        try (refine hK _ _ ?_; clear hK K)
        have y5 := B5.size
        refine wpC_step 11 rfl (by kernel_rfl) (by kernel_rfl) (cls _ B6) (fun K hK => ?_)
        go_simp
        try (refine hK _ _ ?_; clear hK K)
        refine wpC_done (by kernel_rfl) (cls _ (cset5 B6 y5)) ?_
        go_wp2_with fail
        go_meet
        case rel => exact ⟨_, rfl, cset5 B6 y5, y5, row5 R6⟩
    · skip
      go_simp
      try (refine hK _ _ ?_; clear hK K)
      refine wpC_step 1 rfl (by kernel_rfl) (by kernel_rfl) (cls _ (bmore (bdrew B4) _)) (fun K hK => ?_)
      go_simp
      go_wp2_with ((go_at_call 85; refine (dl _).mono ?_; rintro e w5 ⟨rfl, hb5⟩; have B5 := bthen (bmore (bdrew B4) _) hb5; have R5 := (hb5.block (w4.heap.size) (by simp)).trans (rownew _ _ _); have y5 := rowlt R5))
      try (refine hK _ _ ?_; clear hK K)
      refine wpC_step 9 rfl (by kernel_rfl) (by kernel_rfl) (cls _ B5) (fun K hK => ?_)
      go_simp
      go_wp2_with ((go_at_call 84; refine (k2 _).mono ?_; rintro e w6 ⟨rfl, hb6⟩; have B6 := bthen (B5) hb6; have R6 := (hb6.block (w4.heap.size) y5).trans (R5); have rf := rowfree R6; have rl := rowlt R6; have rc0 := rowcell R6 0; have rc1 := rowcell R6 1; have rc2 := rowcell R6 2; have rc3 := rowcell R6 3; have rc4 := rowcell R6 4; simp only [List.getElem?_toArray, List.getElem?_cons_zero, List.getElem?_cons_succ] at rc0 rc1 rc2 rc3 rc4))
      try (refine hK _ _ ?_; clear hK K)
      refine wpC_step 11 rfl (by kernel_rfl) (by kernel_rfl) (cls _ B6) (fun K hK => ?_)
      go_simp
      try (refine hK _ _ ?_; clear hK K)
      refine wpC_done (by kernel_rfl) (cls _ (cset5 B6 (Nat.le_refl _))) ?_
      go_wp2_with fail
      go_meet
      case rel => exact ⟨_, rfl, cset5 B6 (Nat.le_refl _), Nat.le_refl _, row5 R6⟩
  case rest =>
    obtain ⟨n, rfl, hbx, hn, hrx⟩ := hcut
    have HB4 : Hid (Below w4.heap.size w4 wc) := hbx.out
    have HR5_0 := (show Hid _ from (hbx.out.block (w.heap.size) y4_0).trans HR4_0.out)
    have HR5_1 := (show Hid _ from (hbx.out.block (w.heap.size + 1) y4_1).trans HR4_1.out)
    have HR5_2 := (show Hid _ from (hbx.out.block (w.heap.size + 1 + 1) y4_2).trans HR4_2.out)
    have HR5_3 := (show Hid _ from (hbx.out.block (w3.heap.size) y4_3).trans HR4_3.out)
    have HR5_4 := hrx
    have z5_0 : w.heap.size < wc.heap.size := rowlt HR5_0.out
    have z5_1 : w.heap.size + 1 < wc.heap.size := rowlt HR5_1.out
    have z5_2 : w.heap.size + 1 + 1 < wc.heap.size := rowlt HR5_2.out
    have z5_3 : w3.heap.size < wc.heap.size := rowlt HR5_3.out
    have z5_4 : n < wc.heap.size := rowlt HR5_4.out
    have y5_3 : w.heap.size + 1 + 1 < w3.heap.size := by omega
    have HBY : Hid (Below w.heap.size w wc) := cthen HBX.out HB4.out
    clear hbx hrx cls B4 HBX HB4
    have k3_0 := rowcell HR5_3.out 0
    have k3_1 := rowcell HR5_3.out 1
    have k3_2 := rowcell HR5_3.out 2
    have k3_3 := rowcell HR5_3.out 3
    have k3_4 := rowcell HR5_3.out 4
    have k4_0 := rowcell HR5_4.out 0
    have k4_1 := rowcell HR5_4.out 1
    have k4_2 := rowcell HR5_4.out 2
    have k4_3 := rowcell HR5_4.out 3
    have k4_4 := rowcell HR5_4.out 4
    have k0_1 := rowcell HR5_0.out 1
    have k1_1 := rowcell HR5_1.out 1
    simp only [List.getElem?_toArray, List.getElem?_cons_zero, List.getElem?_cons_succ] at k0_1 k1_1 k3_0 k3_1 k3_2 k3_3 k3_4 k4_0 k4_1 k4_2 k4_3 k4_4
    go_wp2_with (first
      | (go_at_call 86; go_must (refine (k3 _).mono ?_); rintro e w6 ⟨rfl, hb6⟩; have R6_0 := (hb6.block (w.heap.size) (by first | (simp; done) | (simp; omega) | omega)).trans HR5_0.out; have z6_0 : w.heap.size < w6.heap.size := Nat.lt_of_lt_of_le (by first | (simp; done) | (simp; omega) | omega) hb6.size; have c6_0_1 := rowcell R6_0 1; simp only [List.getElem?_toArray, List.getElem?_cons_zero, List.getElem?_cons_succ] at c6_0_1; have HR6_0 : Hid _ := R6_0; clear R6_0; have R6_1 := (hb6.block (w.heap.size + 1) (by first | (simp; done) | (simp; omega) | omega)).trans HR5_1.out; have z6_1 : w.heap.size + 1 < w6.heap.size := Nat.lt_of_lt_of_le (by first | (simp; done) | (simp; omega) | omega) hb6.size; have c6_1_1 := rowcell R6_1 1; simp only [List.getElem?_toArray, List.getElem?_cons_zero, List.getElem?_cons_succ] at c6_1_1; have HR6_1 : Hid _ := R6_1; clear R6_1; have R6_2 := (hb6.block (w.heap.size + 1 + 1) (by first | (simp; done) | (simp; omega) | omega)).trans HR5_2.out; have z6_2 : w.heap.size + 1 + 1 < w6.heap.size := Nat.lt_of_lt_of_le (by first | (simp; done) | (simp; omega) | omega) hb6.size; have HR6_2 : Hid _ := R6_2; clear R6_2; have R6_3 := (hb6.block (w3.heap.size) (by first | (simp; done) | (simp; omega) | omega)).trans HR5_3.out; have z6_3 : w3.heap.size < w6.heap.size := Nat.lt_of_lt_of_le (by first | (simp; done) | (simp; omega) | omega) hb6.size; have HR6_3 : Hid _ := R6_3; clear R6_3; have R6_4 := (hb6.block (n) (by first | (simp; done) | (simp; omega) | omega)).trans HR5_4.out; have z6_4 : n < w6.heap.size := Nat.lt_of_lt_of_le (by first | (simp; done) | (simp; omega) | omega) hb6.size; have HR6_4 : Hid _ := R6_4; clear R6_4; have HB6 : Hid (Below _ _ _) := hb6; clear hb6)
      | (go_at_call 88; go_must (refine (k5 _).mono ?_); rintro e w7 ⟨rfl, hb7⟩; have R7_0 := (hb7.block (w.heap.size) (by first | (simp; done) | (simp; omega) | omega)).trans ((Below.heap_alloc _ _ _ (by first | (simp; done) | (simp; omega) | omega)).trans HR6_0.out); have z7_0 : w.heap.size < w7.heap.size := Nat.lt_of_lt_of_le (by first | (simp; done) | (simp; omega) | omega) hb7.size; have c7_0_1 := rowcell R7_0 1; have c7_0_2 := rowcell R7_0 2; simp only [List.getElem?_toArray, List.getElem?_cons_zero, List.getElem?_cons_succ] at c7_0_1 c7_0_2; have HR7_0 : Hid _ := R7_0; clear R7_0; have R7_1 := (hb7.block (w.heap.size + 1) (by first | (simp; done) | (simp; omega) | omega)).trans ((Below.heap_alloc _ _ _ (by first | (simp; done) | (simp; omega) | omega)).trans HR6_1.out); have z7_1 : w.heap.size + 1 < w7.heap.size := Nat.lt_of_lt_of_le (by first | (simp; done) | (simp; omega) | omega) hb7.size; have HR7_1 : Hid _ := R7_1; clear R7_1; have R7_2 := (hb7.block (w.heap.size + 1 + 1) (by first | (simp; done) | (simp; omega) | omega)).trans ((Below.heap_alloc _ _ _ (by first | (simp; done) | (simp; omega) | omega)).trans HR6_2.out); have z7_2 : w.heap.size + 1 + 1 < w7.heap.size := Nat.lt_of_lt_of_le (by first | (simp; done) | (simp; omega) | omega) hb7.size; have HR7_2 : Hid _ := R7_2; clear R7_2; have R7_3 := (hb7.block (w3.heap.size) (by first | (simp; done) | (simp; omega) | omega)).trans ((Below.heap_alloc _ _ _ (by first | (simp; done) | (simp; omega) | omega)).trans HR6_3.out); have z7_3 : w3.heap.size < w7.heap.size := Nat.lt_of_lt_of_le (by first | (simp; done) | (simp; omega) | omega) hb7.size; have HR7_3 : Hid _ := R7_3; clear R7_3; have R7_4 := (hb7.block (n) (by first | (simp; done) | (simp; omega) | omega)).trans ((Below.heap_alloc _ _ _ (by first | (simp; done) | (simp; omega) | omega)).trans HR6_4.out); have z7_4 : n < w7.heap.size := Nat.lt_of_lt_of_le (by first | (simp; done) | (simp; omega) | omega) hb7.size; have HR7_4 : Hid _ := R7_4; clear R7_4; have R7_5 := (hb7.block (w6.heap.size) (by first | (simp; done) | (simp; omega) | omega)).trans (rownew' _ _ _ _ (by simp)); have z7_5 : w6.heap.size < w7.heap.size := Nat.lt_of_lt_of_le (by first | (simp; done) | (simp; omega) | omega) hb7.size; have c7_5_0 := rowcell R7_5 0; have c7_5_1 := rowcell R7_5 1; have c7_5_2 := rowcell R7_5 2; have c7_5_3 := rowcell R7_5 3; have c7_5_4 := rowcell R7_5 4; simp only [List.getElem?_toArray, List.getElem?_cons_zero, List.getElem?_cons_succ] at c7_5_0 c7_5_1 c7_5_2 c7_5_3 c7_5_4; have HR7_5 : Hid _ := R7_5; clear R7_5; have HB7 : Hid (Below _ _ _) := hb7; clear hb7; have g5 := rowfree HR7_5.out; have g2 := rowfree HR7_2.out)
      | (go_at_call 56; go_must (refine (k6 _).mono ?_); rintro e w8 ⟨rfl, hb8⟩; have R8_0 := (hb8.block (w.heap.size) (by first | (simp; done) | (simp; omega) | omega)).trans (row5_other HR7_0.out (by omega)); have z8_0 : w.heap.size < w8.heap.size := Nat.lt_of_lt_of_le (by first | (simp; done) | (simp; omega) | omega) hb8.size; have HR8_0 : Hid _ := R8_0; clear R8_0; have R8_1 := (hb8.block (w.heap.size + 1) (by first | (simp; done) | (simp; omega) | omega)).trans (row5_other HR7_1.out (by omega)); have z8_1 : w.heap.size + 1 < w8.heap.size := Nat.lt_of_lt_of_le (by first | (simp; done) | (simp; omega) | omega) hb8.size; have HR8_1 : Hid _ := R8_1; clear R8_1; have R8_2 := (hb8.block (w.heap.size + 1 + 1) (by first | (simp; done) | (simp; omega) | omega)).trans (row5_other HR7_2.out (by omega)); have z8_2 : w.heap.size + 1 + 1 < w8.heap.size := Nat.lt_of_lt_of_le (by first | (simp; done) | (simp; omega) | omega) hb8.size; have c8_2_0 := rowcell R8_2 0; have c8_2_1 := rowcell R8_2 1; have c8_2_2 := rowcell R8_2 2; have c8_2_3 := rowcell R8_2 3; have c8_2_4 := rowcell R8_2 4; have c8_2_5 := rowcell R8_2 5; simp only [List.getElem?_toArray, List.getElem?_cons_zero, List.getElem?_cons_succ] at c8_2_0 c8_2_1 c8_2_2 c8_2_3 c8_2_4 c8_2_5; have HR8_2 : Hid _ := R8_2; clear R8_2; have R8_3 := (hb8.block (w3.heap.size) (by first | (simp; done) | (simp; omega) | omega)).trans (row5_other HR7_3.out (by omega)); have z8_3 : w3.heap.size < w8.heap.size := Nat.lt_of_lt_of_le (by first | (simp; done) | (simp; omega) | omega) hb8.size; have HR8_3 : Hid _ := R8_3; clear R8_3; have R8_4 := (hb8.block (n) (by first | (simp; done) | (simp; omega) | omega)).trans (row5_other HR7_4.out (by omega)); have z8_4 : n < w8.heap.size := Nat.lt_of_lt_of_le (by first | (simp; done) | (simp; omega) | omega) hb8.size; have HR8_4 : Hid _ := R8_4; clear R8_4; have R8_5 := (hb8.block (w6.heap.size) (by first | (simp; done) | (simp; omega) | omega)).trans (row5 HR7_5.out); have z8_5 : w6.heap.size < w8.heap.size := Nat.lt_of_lt_of_le (by first | (simp; done) | (simp; omega) | omega) hb8.size; have HR8_5 : Hid _ := R8_5; clear R8_5; have HB8 : Hid (Below _ _ _) := hb8; clear hb8; have m2 := rowfree HR8_2.out))
    refine bodyPost_ret (v := .tuple #[.agg #[.int .i64 K, .bool B, .int .i64 S, .int .u64 H, .int .u64 L, .bool T], .nilIface]) (by simp [results, Tryz.results60, go_sem, c8_2_0, c8_2_1, c8_2_2, c8_2_3, c8_2_4, c8_2_5, m2, z8_2]; done) rfl (hQ.out _ _ ⟨rfl, ?_⟩)
    exact cset6 (cthen (cset5 (cthen (cmore (cthen (HBY.out) HB6.out) _) HB7.out) (by omega)) HB8.out) (by omega)
set_option maxHeartbeats 8000000 in
theorem freals_stay_diff (ng : Bool) (sg : Int) (hg lg : Nat) (nl : Bool) (sl : Int) (hl ll : Nat) (zz D E : Int) (kk : Nat) (a0 a1 a2 a3 a4 y0 y1 y2 y3 y4 p0 p1 p2 p3 p4 : Nat) (m0 m1 m2 m3 m4 : Nat) (r0 r1 r2 r3 r4 o o2 : Nat) (uu vv sc : Int) (k : Nat) (t : Bool) (K : Int) (B : Bool) (S : Int) (H L : Nat) (T : Bool)
    (k0 : ∀ w, Calls Tryz.prog 83 #[exV 1 ng sg hg lg false, exV 1 nl sl hl ll false] w fun e w' => e = .returned (.int .i64 zz) ∧ Below w.heap.size w w')
    (hz : decide (zz < 0) = false)
    (k1 : ∀ w, Calls Tryz.prog 84 #[.agg #[.int .u64 hg, .int .u64 lg], .int .i64 191] w fun e w' => e = .returned (.agg #[.int .u64 a0, .int .u64 a1, .int .u64 a2, .int .u64 a3, .int .u64 a4]) ∧ Below w.heap.size w w')
    (q1 : IntKind.i64.wrap (sg - sl) = D) (q2 : IntKind.i64.wrap (191 - D) = E) (q3 : (if E < 0 then 0 else E) = (kk : Int))
    (k2 : ∀ w, Calls Tryz.prog 84 #[.agg #[.int .u64 hl, .int .u64 ll], .int .i64 kk] w fun e w' => e = .returned (.agg #[.int .u64 y0, .int .u64 y1, .int .u64 y2, .int .u64 y3, .int .u64 y4]) ∧ Below w.heap.size w w')
    (k3 : ∀ w, Calls Tryz.prog 86 #[.agg #[.int .u64 a0, .int .u64 a1, .int .u64 a2, .int .u64 a3, .int .u64 a4], .agg #[.int .u64 y0, .int .u64 y1, .int .u64 y2, .int .u64 y3, .int .u64 y4]] w fun e w' => e = .returned (.agg #[.int .u64 p0, .int .u64 p1, .int .u64 p2, .int .u64 p3, .int .u64 p4]) ∧ Below w.heap.size w w')
    (hs : (ng == nl) = false)
    (k4 : ∀ w, Calls Tryz.prog 87 #[.agg #[.int .u64 a0, .int .u64 a1, .int .u64 a2, .int .u64 a3, .int .u64 a4], .agg #[.int .u64 y0, .int .u64 y1, .int .u64 y2, .int .u64 y3, .int .u64 y4]] w fun e w' => e = .returned (.agg #[.int .u64 m0, .int .u64 m1, .int .u64 m2, .int .u64 m3, .int .u64 m4]) ∧ Below w.heap.size w w')
    (h0 : (decide ((m0 : Int) = 0) && decide ((m1 : Int) = 0) && decide ((m2 : Int) = 0) && decide ((m3 : Int) = 0) && decide ((m4 : Int) = 0)) = false)
    (k5 : ∀ w, Calls Tryz.prog 88 #[.agg #[.int .u64 m0, .int .u64 m1, .int .u64 m2, .int .u64 m3, .int .u64 m4]] w fun e w' => e = .returned (.tuple #[.agg #[.int .u64 r0, .int .u64 r1, .int .u64 r2, .int .u64 r3, .int .u64 r4], .int .i64 k]) ∧ Below w.heap.size w w')
    (q4 : IntKind.i64.wrap (sg + 1) = uu) (q5 : IntKind.i64.wrap (uu - (k : Int)) = vv) (q8 : IntKind.i64.wrap (vv - 127) = sc) (q6 : bits BinOp.or IntKind.u64 (r2 : Int) (r1 : Int) = (o : Int)) (q9 : bits BinOp.or IntKind.u64 (o : Int) (r0 : Int) = (o2 : Int)) (q7 : ((o2 : Int) != 0) = t)
    (k6 : ∀ w, Calls Tryz.prog 56 #[.bool ng, .int .u64 r4, .int .u64 r3, .int .i64 sc, .bool t] w fun e w' => e = .returned (.tuple #[exV K B S H L T, .nilIface]) ∧ Below w.heap.size w w') (w : World) :
    Calls Tryz.prog 60 #[exV 1 ng sg hg lg false, exV 1 nl sl hl ll false] w fun e w' => e = .returned (.tuple #[exV K B S H L T, .nilIface]) ∧ Below w.heap.size w w' := by
  have dg := fdigits_any 1 ng sg hg lg false
  have dl := fdigits_any 1 nl sl hl ll false
  unfold exV at *
  have heq := eql5_words m0 m1 m2 m3 m4
  rw [h0] at heq
  have v0 : IntKind.i64.wrap 0 = 0 := rfl
  have v1 : IntKind.i64.wrap 1 = 1 := rfl
  have v2 : IntKind.i64.wrap 2 = 2 := rfl
  have v3 : IntKind.i64.wrap 3 = 3 := rfl
  have v4 : IntKind.i64.wrap 4 = 4 := rfl
  refine cps fun Q hQ => ?_
  go_enter Tryz.func60, Tryz.ntmps60
  go_upto_region 3 with (go_at_call 83; go_must (refine (k0 _).mono ?_); rintro e w1 ⟨rfl, hb1⟩; have R1_0 := (hb1.block (w.heap.size) (by first | (simp; done) | (simp; omega) | omega)).trans ((Below.heap_alloc _ _ _ (by first | (simp; done) | (simp; omega) | omega)).trans ((Below.heap_alloc _ _ _ (by first | (simp; done) | (simp; omega) | omega)).trans (rownew' _ _ _ _ (by simp)))); have z1_0 : w.heap.size < w1.heap.size := Nat.lt_of_lt_of_le (by first | (simp; done) | (simp; omega) | omega) hb1.size; have c1_0_0 := rowcell R1_0 0; have c1_0_1 := rowcell R1_0 1; have c1_0_2 := rowcell R1_0 2; have c1_0_3 := rowcell R1_0 3; have c1_0_4 := rowcell R1_0 4; have c1_0_5 := rowcell R1_0 5; simp only [List.getElem?_toArray, List.getElem?_cons_zero, List.getElem?_cons_succ] at c1_0_0 c1_0_1 c1_0_2 c1_0_3 c1_0_4 c1_0_5; have HR1_0 : Hid _ := R1_0; clear R1_0; have R1_1 := (hb1.block (w.heap.size + 1) (by first | (simp; done) | (simp; omega) | omega)).trans ((Below.heap_alloc _ _ _ (by first | (simp; done) | (simp; omega) | omega)).trans (rownew' _ _ _ _ (by simp))); have z1_1 : w.heap.size + 1 < w1.heap.size := Nat.lt_of_lt_of_le (by first | (simp; done) | (simp; omega) | omega) hb1.size; have c1_1_0 := rowcell R1_1 0; have c1_1_1 := rowcell R1_1 1; have c1_1_2 := rowcell R1_1 2; have c1_1_3 := rowcell R1_1 3; have c1_1_4 := rowcell R1_1 4; have c1_1_5 := rowcell R1_1 5; simp only [List.getElem?_toArray, List.getElem?_cons_zero, List.getElem?_cons_succ] at c1_1_0 c1_1_1 c1_1_2 c1_1_3 c1_1_4 c1_1_5; have HR1_1 : Hid _ := R1_1; clear R1_1; have R1_2 := (hb1.block (w.heap.size + 1 + 1) (by first | (simp; done) | (simp; omega) | omega)).trans (rownew' _ _ _ _ (by simp)); have z1_2 : w.heap.size + 1 + 1 < w1.heap.size := Nat.lt_of_lt_of_le (by first | (simp; done) | (simp; omega) | omega) hb1.size; have HR1_2 : Hid _ := R1_2; clear R1_2; have HB1 : Hid (Below _ _ _) := hb1; clear hb1; have fr0 := rowfree HR1_0.out; have fr1 := rowfree HR1_1.out; have fr2 := rowfree HR1_2.out)
  have HBW : Hid (Below w.heap.size w w1) := cthen (cmore (cmore (cmore (Below.refl _ _) _) _) _) HB1.out
  clear c1_0_0 c1_0_1 c1_0_2 c1_0_3 c1_0_4 c1_0_5 c1_1_0 c1_1_1 c1_1_2 c1_1_3 c1_1_4 c1_1_5 fr0 fr1 fr2
  have x0_ := rowcell HR1_0.out 0
  have x1_ := rowcell HR1_0.out 1
  have x2_ := rowcell HR1_0.out 2
  have x3_ := rowcell HR1_0.out 3
  have x4_ := rowcell HR1_0.out 4
  have x5_ := rowcell HR1_0.out 5
  simp only [List.getElem?_toArray, List.getElem?_cons_zero, List.getElem?_cons_succ] at x0_ x1_ x2_ x3_ x4_ x5_
  go_upto_region 4 with (first
    | (go_at_call 84; have chk := HB2; go_must (refine (k1 _).mono ?_); rintro e w3 ⟨rfl, hb3⟩; have R3_0 := (hb3.block (w.heap.size) (by first | (simp; done) | (simp; omega) | omega)).trans HR2_0.out; have z3_0 : w.heap.size < w3.heap.size := Nat.lt_of_lt_of_le (by first | (simp; done) | (simp; omega) | omega) hb3.size; have HR3_0 : Hid _ := R3_0; clear R3_0; have R3_1 := (hb3.block (w.heap.size + 1) (by first | (simp; done) | (simp; omega) | omega)).trans HR2_1.out; have z3_1 : w.heap.size + 1 < w3.heap.size := Nat.lt_of_lt_of_le (by first | (simp; done) | (simp; omega) | omega) hb3.size; have HR3_1 : Hid _ := R3_1; clear R3_1; have R3_2 := (hb3.block (w.heap.size + 1 + 1) (by first | (simp; done) | (simp; omega) | omega)).trans HR2_2.out; have z3_2 : w.heap.size + 1 + 1 < w3.heap.size := Nat.lt_of_lt_of_le (by first | (simp; done) | (simp; omega) | omega) hb3.size; have HR3_2 : Hid _ := R3_2; clear R3_2; have HB3 : Hid (Below _ _ _) := hb3; clear hb3)
    | (go_at_call 85; go_must (refine (dg _).mono ?_); rintro e w2 ⟨rfl, hb2⟩; have R2_0 := (hb2.block (w.heap.size) (by first | (simp; done) | (simp; omega) | omega)).trans HR1_0.out; have z2_0 : w.heap.size < w2.heap.size := Nat.lt_of_lt_of_le (by first | (simp; done) | (simp; omega) | omega) hb2.size; have HR2_0 : Hid _ := R2_0; clear R2_0; have R2_1 := (hb2.block (w.heap.size + 1) (by first | (simp; done) | (simp; omega) | omega)).trans HR1_1.out; have z2_1 : w.heap.size + 1 < w2.heap.size := Nat.lt_of_lt_of_le (by first | (simp; done) | (simp; omega) | omega) hb2.size; have HR2_1 : Hid _ := R2_1; clear R2_1; have R2_2 := (hb2.block (w.heap.size + 1 + 1) (by first | (simp; done) | (simp; omega) | omega)).trans HR1_2.out; have z2_2 : w.heap.size + 1 + 1 < w2.heap.size := Nat.lt_of_lt_of_le (by first | (simp; done) | (simp; omega) | omega) hb2.size; have HR2_2 : Hid _ := R2_2; clear R2_2; have HB2 : Hid (Below _ _ _) := hb2; clear hb2))
  clear x0_ x1_ x2_ x3_ x4_ x5_
  generalize hw4 : World.alloc w3 _ = w4
  have HR4_0 := (show Hid _ from (by rw [← hw4]; exact (Below.heap_alloc _ _ _ (by omega)).trans HR3_0.out : w4.heap[w.heap.size]? = some (.cells #[.int .i64 1, .bool ng, .int .i64 sg, .int .u64 hg, .int .u64 lg, .bool false] 59 (0, 0))))
  have HR4_1 := (show Hid _ from (by rw [← hw4]; exact (Below.heap_alloc _ _ _ (by omega)).trans HR3_1.out : w4.heap[w.heap.size + 1]? = some (.cells #[.int .i64 1, .bool nl, .int .i64 sl, .int .u64 hl, .int .u64 ll, .bool false] 59 (0, 0))))
  have HR4_2 := (show Hid _ from (by rw [← hw4]; exact (Below.heap_alloc _ _ _ (by omega)).trans HR3_2.out : w4.heap[w.heap.size + 1 + 1]? = some (.cells #[.int .i64 0, .bool false, .int .i64 0, .int .u64 0, .int .u64 0, .bool false] 59 (0, 0))))
  have HR4_3 := (show Hid _ from (by rw [← hw4]; exact rownew _ _ _ : w4.heap[w3.heap.size]? = some (.cells #[.int .u64 a0, .int .u64 a1, .int .u64 a2, .int .u64 a3, .int .u64 a4] 134 (0, 0))))
  have HBX : Hid (Below w.heap.size w w4) := by show Below _ _ _; rw [← hw4]; exact cmore (cthen (cthen (HBW.out) HB2.out) HB3.out) _
  clear hw4
  have y4_0 : w.heap.size < w4.heap.size := rowlt HR4_0.out
  have y4_1 : w.heap.size + 1 < w4.heap.size := rowlt HR4_1.out
  have y4_2 : w.heap.size + 1 + 1 < w4.heap.size := rowlt HR4_2.out
  have y4_3 : w3.heap.size < w4.heap.size := rowlt HR4_3.out
  have cls : ∀ V, Below w4.heap.size w4 V → V.cell? ⟨w.heap.size, 2, none⟩ = some (.int .i64 sg) ∧ V.cell? ⟨w.heap.size + 1, 0, none⟩ = some (.int .i64 1) ∧ V.cell? ⟨w.heap.size + 1, 1, none⟩ = some (.bool nl) ∧ V.cell? ⟨w.heap.size + 1, 2, none⟩ = some (.int .i64 sl) ∧ V.cell? ⟨w.heap.size + 1, 3, none⟩ = some (.int .u64 hl) ∧ V.cell? ⟨w.heap.size + 1, 4, none⟩ = some (.int .u64 ll) ∧ V.cell? ⟨w.heap.size + 1, 5, none⟩ = some (.bool false) := fun V hV => by
    have q0 := (hV.block (w.heap.size) y4_0).trans HR4_0.out
    have q1 := (hV.block (w.heap.size + 1) y4_1).trans HR4_1.out
    exact ⟨rowcell q0 2, rowcell q1 0, rowcell q1 1, rowcell q1 2, rowcell q1 3, rowcell q1 4, rowcell q1 5⟩
  have B4 : Below w4.heap.size w4 w4 := Below.refl _ _
  go_cut [7] from 19 (fun s7 wx => ∃ n : Nat, s7 = .pointer (some ⟨n, 0, none⟩) ∧ Hid (Below w4.heap.size w4 wx) ∧ w4.heap.size ≤ n ∧ Hid (wx.heap[n]? = some (.cells #[.int .u64 y0, .int .u64 y1, .int .u64 y2, .int .u64 y3, .int .u64 y4] 134 (0, 0))))
  case first =>
    refine wpC_region (fun V => V.cell? ⟨w.heap.size, 2, none⟩ = some (.int .i64 sg) ∧ V.cell? ⟨w.heap.size + 1, 0, none⟩ = some (.int .i64 1) ∧ V.cell? ⟨w.heap.size + 1, 1, none⟩ = some (.bool nl) ∧ V.cell? ⟨w.heap.size + 1, 2, none⟩ = some (.int .i64 sl) ∧ V.cell? ⟨w.heap.size + 1, 3, none⟩ = some (.int .u64 hl) ∧ V.cell? ⟨w.heap.size + 1, 4, none⟩ = some (.int .u64 ll) ∧ V.cell? ⟨w.heap.size + 1, 5, none⟩ = some (.bool false)) (by kernel_rfl) ?_
    refine wpC_take 0 (v := ?_) rfl (by kernel_rfl) (fun _ _ _ h => h) (by kernel_rfl) ?_ ?_; rotate_left; · (intro wC hC; obtain ⟨d0, d1, d2, d3, d4, d5, d6⟩ := hC; go_simp <;> with_reducible rfl)
    refine wpC_take 2 (v := ?_) rfl (by kernel_rfl) (fun _ _ _ h => h) (by kernel_rfl) ?_ ?_; rotate_left; · (intro wC hC; obtain ⟨d0, d1, d2, d3, d4, d5, d6⟩ := hC; go_simp <;> with_reducible rfl)
    refine wpC_take 3 (v := ?_) rfl (by kernel_rfl) (fun _ _ _ h => h) (by kernel_rfl) ?_ ?_; rotate_left; · (intro wC hC; obtain ⟨d0, d1, d2, d3, d4, d5, d6⟩ := hC; go_simp <;> with_reducible rfl)
    refine wpC_take 4 (v := ?_) rfl (by kernel_rfl) (fun _ _ _ h => h) (by kernel_rfl) ?_ ?_; rotate_left; · (intro wC hC; obtain ⟨d0, d1, d2, d3, d4, d5, d6⟩ := hC; go_simp <;> with_reducible rfl)
    refine wpC_take 5 (v := ?_) rfl (by kernel_rfl) (fun _ _ _ h => h) (by kernel_rfl) ?_ ?_; rotate_left; · (intro wC hC; obtain ⟨d0, d1, d2, d3, d4, d5, d6⟩ := hC; go_simp <;> with_reducible rfl)
    refine wpC_take 6 (v := ?_) rfl (by kernel_rfl) (fun _ _ _ h => h) (by kernel_rfl) ?_ ?_; rotate_left; · (intro wC hC; obtain ⟨d0, d1, d2, d3, d4, d5, d6⟩ := hC; go_simp <;> with_reducible rfl)
    refine wpC_take 7 (v := ?_) rfl (by kernel_rfl) (fun _ _ _ h => h) (by kernel_rfl) ?_ ?_; rotate_left; · (intro wC hC; obtain ⟨d0, d1, d2, d3, d4, d5, d6⟩ := hC; go_simp <;> with_reducible rfl)
    refine wpC_take 8 (v := ?_) rfl (by kernel_rfl) (fun _ _ _ h => h) (by kernel_rfl) ?_ ?_; rotate_left; · (intro wC hC; obtain ⟨d0, d1, d2, d3, d4, d5, d6⟩ := hC; go_simp <;> with_reducible rfl)
    refine wpC_two 1 10 rfl rfl (by kernel_rfl) (by kernel_rfl) (by kernel_rfl) (cls _ (bdrew B4)) (fun K hK => ?_) (fun K hK => ?_)
    · skip
      go_simp
      go_wp2_with ((go_at_call 85; refine (dl _).mono ?_; rintro e w5 ⟨rfl, hb5⟩; have B5 := bthen (bdrew B4) hb5))
      try (refine hK _ _ ?_; clear hK K)
      refine wpC_two 9 10 rfl rfl (by kernel_rfl) (by kernel_rfl) (by kernel_rfl) (cls _ B5) (fun K hK => ?_) (fun K hK => ?_)
      · skip
        go_simp
        go_wp2_with ((go_at_call 84; refine (k2 _).mono ?_; rintro e w6 ⟨rfl, hb6⟩; have B6 := bthen (B5) hb6))
        try (refine hK _ _ ?_; clear hK K)
        refine wpC_step 10 rfl (by kernel_rfl) (by kernel_rfl) (cls _ B6) (fun K hK => ?_)
        go_simp
        try (refine hK _ _ ?_; clear hK K)
        refine wpC_step 11 rfl (by kernel_rfl) (by kernel_rfl) (cls _ (bmore B6 _)) (fun K hK => ?_)
        go_simp
        try (refine hK _ _ ?_; clear hK K)
        refine wpC_done (by kernel_rfl) (cls _ (bmore B6 _)) ?_
        go_wp2_with fail
        go_meet
        case rel => exact ⟨_, rfl, bmore B6 _, B6.size, rownew _ _ _⟩
      · skip
        go_simp
        try (refine hK _ _ ?_; clear hK K)
        refine wpC_step 9 rfl (by kernel_rfl) (by kernel_rfl) (cls _ (bmore B5 _)) (fun K hK => ?_)
        go_simp
        go_wp2_with ((go_at_call 84; refine (k2 _).mono ?_; rintro e w6 ⟨rfl, hb6⟩; have B6 := bthen (bmore B5 _) hb6; have R6 := (hb6.block (w5.heap.size) (by simp)).trans (rownew _ _ _); have rf := rowfree R6; have rl := rowlt R6; have rc0 := rowcell R6 0; have rc1 := rowcell R6 1; have rc2 := rowcell R6 2; have rc3 := rowcell R6 3; have rc4 := rowcell R6 4; simp only [List.getElem?_toArray, List.getElem?_cons_zero, List.getElem?_cons_succ] at rc0 rc1 rc2 rc3 rc4))
        try (refine hK _ _ ?_; clear hK K)
        have y5 := B5.size
        refine wpC_step 11 rfl (by kernel_rfl) (by kernel_rfl) (cls _ B6) (fun K hK => ?_)
        go_simp
        try (refine hK _ _ ?_; clear hK K)
        refine wpC_done (by kernel_rfl) (cls _ (cset5 B6 y5)) ?_
        go_wp2_with fail
        go_meet
        case rel => exact ⟨_, rfl, cset5 B6 y5, y5, row5 R6⟩
    · skip
      go_simp
      try (refine hK _ _ ?_; clear hK K)
      refine wpC_step 1 rfl (by kernel_rfl) (by kernel_rfl) (cls _ (bmore (bdrew B4) _)) (fun K hK => ?_)
      go_simp
      go_wp2_with ((go_at_call 85; refine (dl _).mono ?_; rintro e w5 ⟨rfl, hb5⟩; have B5 := bthen (bmore (bdrew B4) _) hb5; have R5 := (hb5.block (w4.heap.size) (by simp)).trans (rownew _ _ _); have y5 := rowlt R5))
      try (refine hK _ _ ?_; clear hK K)
      refine wpC_step 9 rfl (by kernel_rfl) (by kernel_rfl) (cls _ B5) (fun K hK => ?_)
      go_simp
      go_wp2_with ((go_at_call 84; refine (k2 _).mono ?_; rintro e w6 ⟨rfl, hb6⟩; have B6 := bthen (B5) hb6; have R6 := (hb6.block (w4.heap.size) y5).trans (R5); have rf := rowfree R6; have rl := rowlt R6; have rc0 := rowcell R6 0; have rc1 := rowcell R6 1; have rc2 := rowcell R6 2; have rc3 := rowcell R6 3; have rc4 := rowcell R6 4; simp only [List.getElem?_toArray, List.getElem?_cons_zero, List.getElem?_cons_succ] at rc0 rc1 rc2 rc3 rc4))
      try (refine hK _ _ ?_; clear hK K)
      refine wpC_step 11 rfl (by kernel_rfl) (by kernel_rfl) (cls _ B6) (fun K hK => ?_)
      go_simp
      try (refine hK _ _ ?_; clear hK K)
      refine wpC_done (by kernel_rfl) (cls _ (cset5 B6 (Nat.le_refl _))) ?_
      go_wp2_with fail
      go_meet
      case rel => exact ⟨_, rfl, cset5 B6 (Nat.le_refl _), Nat.le_refl _, row5 R6⟩
  case rest =>
    obtain ⟨n, rfl, hbx, hn, hrx⟩ := hcut
    have HB4 : Hid (Below w4.heap.size w4 wc) := hbx.out
    have HR5_0 := (show Hid _ from (hbx.out.block (w.heap.size) y4_0).trans HR4_0.out)
    have HR5_1 := (show Hid _ from (hbx.out.block (w.heap.size + 1) y4_1).trans HR4_1.out)
    have HR5_2 := (show Hid _ from (hbx.out.block (w.heap.size + 1 + 1) y4_2).trans HR4_2.out)
    have HR5_3 := (show Hid _ from (hbx.out.block (w3.heap.size) y4_3).trans HR4_3.out)
    have HR5_4 := hrx
    have z5_0 : w.heap.size < wc.heap.size := rowlt HR5_0.out
    have z5_1 : w.heap.size + 1 < wc.heap.size := rowlt HR5_1.out
    have z5_2 : w.heap.size + 1 + 1 < wc.heap.size := rowlt HR5_2.out
    have z5_3 : w3.heap.size < wc.heap.size := rowlt HR5_3.out
    have z5_4 : n < wc.heap.size := rowlt HR5_4.out
    have y5_3 : w.heap.size + 1 + 1 < w3.heap.size := by omega
    have HBY : Hid (Below w.heap.size w wc) := cthen HBX.out HB4.out
    clear hbx hrx cls B4 HBX HB4
    have k3_0 := rowcell HR5_3.out 0
    have k3_1 := rowcell HR5_3.out 1
    have k3_2 := rowcell HR5_3.out 2
    have k3_3 := rowcell HR5_3.out 3
    have k3_4 := rowcell HR5_3.out 4
    have k4_0 := rowcell HR5_4.out 0
    have k4_1 := rowcell HR5_4.out 1
    have k4_2 := rowcell HR5_4.out 2
    have k4_3 := rowcell HR5_4.out 3
    have k4_4 := rowcell HR5_4.out 4
    have k0_1 := rowcell HR5_0.out 1
    have k1_1 := rowcell HR5_1.out 1
    simp only [List.getElem?_toArray, List.getElem?_cons_zero, List.getElem?_cons_succ] at k0_1 k1_1 k3_0 k3_1 k3_2 k3_3 k3_4 k4_0 k4_1 k4_2 k4_3 k4_4
    go_wp2_with (first
      | (go_at_call 86; go_must (refine (k3 _).mono ?_); rintro e w6 ⟨rfl, hb6⟩; have R6_0 := (hb6.block (w.heap.size) (by first | (simp; done) | (simp; omega) | omega)).trans HR5_0.out; have z6_0 : w.heap.size < w6.heap.size := Nat.lt_of_lt_of_le (by first | (simp; done) | (simp; omega) | omega) hb6.size; have c6_0_1 := rowcell R6_0 1; simp only [List.getElem?_toArray, List.getElem?_cons_zero, List.getElem?_cons_succ] at c6_0_1; have HR6_0 : Hid _ := R6_0; clear R6_0; have R6_1 := (hb6.block (w.heap.size + 1) (by first | (simp; done) | (simp; omega) | omega)).trans HR5_1.out; have z6_1 : w.heap.size + 1 < w6.heap.size := Nat.lt_of_lt_of_le (by first | (simp; done) | (simp; omega) | omega) hb6.size; have c6_1_1 := rowcell R6_1 1; simp only [List.getElem?_toArray, List.getElem?_cons_zero, List.getElem?_cons_succ] at c6_1_1; have HR6_1 : Hid _ := R6_1; clear R6_1; have R6_2 := (hb6.block (w.heap.size + 1 + 1) (by first | (simp; done) | (simp; omega) | omega)).trans HR5_2.out; have z6_2 : w.heap.size + 1 + 1 < w6.heap.size := Nat.lt_of_lt_of_le (by first | (simp; done) | (simp; omega) | omega) hb6.size; have HR6_2 : Hid _ := R6_2; clear R6_2; have R6_3 := (hb6.block (w3.heap.size) (by first | (simp; done) | (simp; omega) | omega)).trans HR5_3.out; have z6_3 : w3.heap.size < w6.heap.size := Nat.lt_of_lt_of_le (by first | (simp; done) | (simp; omega) | omega) hb6.size; have c6_3_0 := rowcell R6_3 0; have c6_3_1 := rowcell R6_3 1; have c6_3_2 := rowcell R6_3 2; have c6_3_3 := rowcell R6_3 3; have c6_3_4 := rowcell R6_3 4; simp only [List.getElem?_toArray, List.getElem?_cons_zero, List.getElem?_cons_succ] at c6_3_0 c6_3_1 c6_3_2 c6_3_3 c6_3_4; have HR6_3 : Hid _ := R6_3; clear R6_3; have R6_4 := (hb6.block (n) (by first | (simp; done) | (simp; omega) | omega)).trans HR5_4.out; have z6_4 : n < w6.heap.size := Nat.lt_of_lt_of_le (by first | (simp; done) | (simp; omega) | omega) hb6.size; have c6_4_0 := rowcell R6_4 0; have c6_4_1 := rowcell R6_4 1; have c6_4_2 := rowcell R6_4 2; have c6_4_3 := rowcell R6_4 3; have c6_4_4 := rowcell R6_4 4; simp only [List.getElem?_toArray, List.getElem?_cons_zero, List.getElem?_cons_succ] at c6_4_0 c6_4_1 c6_4_2 c6_4_3 c6_4_4; have HR6_4 : Hid _ := R6_4; clear R6_4; have HB6 : Hid (Below _ _ _) := hb6; clear hb6)
      | (go_at_call 87; go_must (refine (k4 _).mono ?_); rintro e w7 ⟨rfl, hb7⟩; have R7_0 := (hb7.block (w.heap.size) (by first | (simp; done) | (simp; omega) | omega)).trans ((Below.heap_alloc _ _ _ (by first | (simp; done) | (simp; omega) | omega)).trans HR6_0.out); have z7_0 : w.heap.size < w7.heap.size := Nat.lt_of_lt_of_le (by first | (simp; done) | (simp; omega) | omega) hb7.size; have HR7_0 : Hid _ := R7_0; clear R7_0; have R7_1 := (hb7.block (w.heap.size + 1) (by first | (simp; done) | (simp; omega) | omega)).trans ((Below.heap_alloc _ _ _ (by first | (simp; done) | (simp; omega) | omega)).trans HR6_1.out); have z7_1 : w.heap.size + 1 < w7.heap.size := Nat.lt_of_lt_of_le (by first | (simp; done) | (simp; omega) | omega) hb7.size; have HR7_1 : Hid _ := R7_1; clear R7_1; have R7_2 := (hb7.block (w.heap.size + 1 + 1) (by first | (simp; done) | (simp; omega) | omega)).trans ((Below.heap_alloc _ _ _ (by first | (simp; done) | (simp; omega) | omega)).trans HR6_2.out); have z7_2 : w.heap.size + 1 + 1 < w7.heap.size := Nat.lt_of_lt_of_le (by first | (simp; done) | (simp; omega) | omega) hb7.size; have HR7_2 : Hid _ := R7_2; clear R7_2; have R7_3 := (hb7.block (w3.heap.size) (by first | (simp; done) | (simp; omega) | omega)).trans ((Below.heap_alloc _ _ _ (by first | (simp; done) | (simp; omega) | omega)).trans HR6_3.out); have z7_3 : w3.heap.size < w7.heap.size := Nat.lt_of_lt_of_le (by first | (simp; done) | (simp; omega) | omega) hb7.size; have HR7_3 : Hid _ := R7_3; clear R7_3; have R7_4 := (hb7.block (n) (by first | (simp; done) | (simp; omega) | omega)).trans ((Below.heap_alloc _ _ _ (by first | (simp; done) | (simp; omega) | omega)).trans HR6_4.out); have z7_4 : n < w7.heap.size := Nat.lt_of_lt_of_le (by first | (simp; done) | (simp; omega) | omega) hb7.size; have HR7_4 : Hid _ := R7_4; clear R7_4; have R7_5 := (hb7.block (w6.heap.size) (by first | (simp; done) | (simp; omega) | omega)).trans (rownew' _ _ _ _ (by simp)); have z7_5 : w6.heap.size < w7.heap.size := Nat.lt_of_lt_of_le (by first | (simp; done) | (simp; omega) | omega) hb7.size; have c7_5_0 := rowcell R7_5 0; have c7_5_1 := rowcell R7_5 1; have c7_5_2 := rowcell R7_5 2; have c7_5_3 := rowcell R7_5 3; have c7_5_4 := rowcell R7_5 4; simp only [List.getElem?_toArray, List.getElem?_cons_zero, List.getElem?_cons_succ] at c7_5_0 c7_5_1 c7_5_2 c7_5_3 c7_5_4; have HR7_5 : Hid _ := R7_5; clear R7_5; have HB7 : Hid (Below _ _ _) := hb7; clear hb7; have f5 := rowfree HR7_5.out; have f2 := rowfree HR7_2.out)
      | (go_at_call 88; go_must (refine (k5 _).mono ?_); rintro e w8 ⟨rfl, hb8⟩; have R8_0 := (hb8.block (w.heap.size) (by first | (simp; done) | (simp; omega) | omega)).trans (row5_other HR7_0.out (by omega)); have z8_0 : w.heap.size < w8.heap.size := Nat.lt_of_lt_of_le (by first | (simp; done) | (simp; omega) | omega) hb8.size; have c8_0_1 := rowcell R8_0 1; have c8_0_2 := rowcell R8_0 2; simp only [List.getElem?_toArray, List.getElem?_cons_zero, List.getElem?_cons_succ] at c8_0_1 c8_0_2; have HR8_0 : Hid _ := R8_0; clear R8_0; have R8_1 := (hb8.block (w.heap.size + 1) (by first | (simp; done) | (simp; omega) | omega)).trans (row5_other HR7_1.out (by omega)); have z8_1 : w.heap.size + 1 < w8.heap.size := Nat.lt_of_lt_of_le (by first | (simp; done) | (simp; omega) | omega) hb8.size; have HR8_1 : Hid _ := R8_1; clear R8_1; have R8_2 := (hb8.block (w.heap.size + 1 + 1) (by first | (simp; done) | (simp; omega) | omega)).trans (row5_other HR7_2.out (by omega)); have z8_2 : w.heap.size + 1 + 1 < w8.heap.size := Nat.lt_of_lt_of_le (by first | (simp; done) | (simp; omega) | omega) hb8.size; have HR8_2 : Hid _ := R8_2; clear R8_2; have R8_3 := (hb8.block (w3.heap.size) (by first | (simp; done) | (simp; omega) | omega)).trans (row5_other HR7_3.out (by omega)); have z8_3 : w3.heap.size < w8.heap.size := Nat.lt_of_lt_of_le (by first | (simp; done) | (simp; omega) | omega) hb8.size; have HR8_3 : Hid _ := R8_3; clear R8_3; have R8_4 := (hb8.block (n) (by first | (simp; done) | (simp; omega) | omega)).trans (row5_other HR7_4.out (by omega)); have z8_4 : n < w8.heap.size := Nat.lt_of_lt_of_le (by first | (simp; done) | (simp; omega) | omega) hb8.size; have HR8_4 : Hid _ := R8_4; clear R8_4; have R8_5 := (hb8.block (w6.heap.size) (by first | (simp; done) | (simp; omega) | omega)).trans (row5 HR7_5.out); have z8_5 : w6.heap.size < w8.heap.size := Nat.lt_of_lt_of_le (by first | (simp; done) | (simp; omega) | omega) hb8.size; have c8_5_0 := rowcell R8_5 0; have c8_5_1 := rowcell R8_5 1; have c8_5_2 := rowcell R8_5 2; have c8_5_3 := rowcell R8_5 3; have c8_5_4 := rowcell R8_5 4; simp only [List.getElem?_toArray, List.getElem?_cons_zero, List.getElem?_cons_succ] at c8_5_0 c8_5_1 c8_5_2 c8_5_3 c8_5_4; have HR8_5 : Hid _ := R8_5; clear R8_5; have HB8 : Hid (Below _ _ _) := hb8; clear hb8; have g5 := rowfree HR8_5.out; have g2 := rowfree HR8_2.out)
      | (go_at_call 56; go_must (refine (k6 _).mono ?_); rintro e w9 ⟨rfl, hb9⟩; have R9_0 := (hb9.block (w.heap.size) (by first | (simp; done) | (simp; omega) | omega)).trans (row5_other HR8_0.out (by omega)); have z9_0 : w.heap.size < w9.heap.size := Nat.lt_of_lt_of_le (by first | (simp; done) | (simp; omega) | omega) hb9.size; have HR9_0 : Hid _ := R9_0; clear R9_0; have R9_1 := (hb9.block (w.heap.size + 1) (by first | (simp; done) | (simp; omega) | omega)).trans (row5_other HR8_1.out (by omega)); have z9_1 : w.heap.size + 1 < w9.heap.size := Nat.lt_of_lt_of_le (by first | (simp; done) | (simp; omega) | omega) hb9.size; have HR9_1 : Hid _ := R9_1; clear R9_1; have R9_2 := (hb9.block (w.heap.size + 1 + 1) (by first | (simp; done) | (simp; omega) | omega)).trans (row5_other HR8_2.out (by omega)); have z9_2 : w.heap.size + 1 + 1 < w9.heap.size := Nat.lt_of_lt_of_le (by first | (simp; done) | (simp; omega) | omega) hb9.size; have c9_2_0 := rowcell R9_2 0; have c9_2_1 := rowcell R9_2 1; have c9_2_2 := rowcell R9_2 2; have c9_2_3 := rowcell R9_2 3; have c9_2_4 := rowcell R9_2 4; have c9_2_5 := rowcell R9_2 5; simp only [List.getElem?_toArray, List.getElem?_cons_zero, List.getElem?_cons_succ] at c9_2_0 c9_2_1 c9_2_2 c9_2_3 c9_2_4 c9_2_5; have HR9_2 : Hid _ := R9_2; clear R9_2; have R9_3 := (hb9.block (w3.heap.size) (by first | (simp; done) | (simp; omega) | omega)).trans (row5_other HR8_3.out (by omega)); have z9_3 : w3.heap.size < w9.heap.size := Nat.lt_of_lt_of_le (by first | (simp; done) | (simp; omega) | omega) hb9.size; have HR9_3 : Hid _ := R9_3; clear R9_3; have R9_4 := (hb9.block (n) (by first | (simp; done) | (simp; omega) | omega)).trans (row5_other HR8_4.out (by omega)); have z9_4 : n < w9.heap.size := Nat.lt_of_lt_of_le (by first | (simp; done) | (simp; omega) | omega) hb9.size; have HR9_4 : Hid _ := R9_4; clear R9_4; have R9_5 := (hb9.block (w6.heap.size) (by first | (simp; done) | (simp; omega) | omega)).trans (row5 HR8_5.out); have z9_5 : w6.heap.size < w9.heap.size := Nat.lt_of_lt_of_le (by first | (simp; done) | (simp; omega) | omega) hb9.size; have HR9_5 : Hid _ := R9_5; clear R9_5; have HB9 : Hid (Below _ _ _) := hb9; clear hb9; have m2 := rowfree HR9_2.out))
    refine bodyPost_ret (v := .tuple #[.agg #[.int .i64 K, .bool B, .int .i64 S, .int .u64 H, .int .u64 L, .bool T], .nilIface]) (by simp [results, Tryz.results60, go_sem, c9_2_0, c9_2_1, c9_2_2, c9_2_3, c9_2_4, c9_2_5, m2, z9_2]; done) rfl (hQ.out _ _ ⟨rfl, ?_⟩)
    exact cset6 (cthen (cset5 (cthen (cset5 (cthen (cmore (cthen (HBY.out) HB6.out) _) HB7.out) (by omega)) HB8.out) (by omega)) HB9.out) (by omega)
set_option maxHeartbeats 8000000 in
theorem freals_stay_zero (ng : Bool) (sg : Int) (hg lg : Nat) (nl : Bool) (sl : Int) (hl ll : Nat) (zz D E : Int) (kk : Nat) (a0 a1 a2 a3 a4 y0 y1 y2 y3 y4 p0 p1 p2 p3 p4 : Nat) (m0 m1 m2 m3 m4 : Nat)
    (k0 : ∀ w, Calls Tryz.prog 83 #[exV 1 ng sg hg lg false, exV 1 nl sl hl ll false] w fun e w' => e = .returned (.int .i64 zz) ∧ Below w.heap.size w w')
    (hz : decide (zz < 0) = false)
    (k1 : ∀ w, Calls Tryz.prog 84 #[.agg #[.int .u64 hg, .int .u64 lg], .int .i64 191] w fun e w' => e = .returned (.agg #[.int .u64 a0, .int .u64 a1, .int .u64 a2, .int .u64 a3, .int .u64 a4]) ∧ Below w.heap.size w w')
    (q1 : IntKind.i64.wrap (sg - sl) = D) (q2 : IntKind.i64.wrap (191 - D) = E) (q3 : (if E < 0 then 0 else E) = (kk : Int))
    (k2 : ∀ w, Calls Tryz.prog 84 #[.agg #[.int .u64 hl, .int .u64 ll], .int .i64 kk] w fun e w' => e = .returned (.agg #[.int .u64 y0, .int .u64 y1, .int .u64 y2, .int .u64 y3, .int .u64 y4]) ∧ Below w.heap.size w w')
    (k3 : ∀ w, Calls Tryz.prog 86 #[.agg #[.int .u64 a0, .int .u64 a1, .int .u64 a2, .int .u64 a3, .int .u64 a4], .agg #[.int .u64 y0, .int .u64 y1, .int .u64 y2, .int .u64 y3, .int .u64 y4]] w fun e w' => e = .returned (.agg #[.int .u64 p0, .int .u64 p1, .int .u64 p2, .int .u64 p3, .int .u64 p4]) ∧ Below w.heap.size w w')
    (hs : (ng == nl) = false)
    (k4 : ∀ w, Calls Tryz.prog 87 #[.agg #[.int .u64 a0, .int .u64 a1, .int .u64 a2, .int .u64 a3, .int .u64 a4], .agg #[.int .u64 y0, .int .u64 y1, .int .u64 y2, .int .u64 y3, .int .u64 y4]] w fun e w' => e = .returned (.agg #[.int .u64 m0, .int .u64 m1, .int .u64 m2, .int .u64 m3, .int .u64 m4]) ∧ Below w.heap.size w w')
    (h0 : (decide ((m0 : Int) = 0) && decide ((m1 : Int) = 0) && decide ((m2 : Int) = 0) && decide ((m3 : Int) = 0) && decide ((m4 : Int) = 0)) = true) (w : World) :
    Calls Tryz.prog 60 #[exV 1 ng sg hg lg false, exV 1 nl sl hl ll false] w fun e w' => e = .returned (.tuple #[exV 0 false 0 0 0 false, .nilIface]) ∧ Below w.heap.size w w' := by
  have dg := fdigits_any 1 ng sg hg lg false
  have dl := fdigits_any 1 nl sl hl ll false
  unfold exV at *
  rw [show ((0 : Nat) : Int) = 0 from rfl] at *
  have heq := eql5_words m0 m1 m2 m3 m4
  rw [h0] at heq
  have v0 : IntKind.i64.wrap 0 = 0 := rfl
  have v1 : IntKind.i64.wrap 1 = 1 := rfl
  have v2 : IntKind.i64.wrap 2 = 2 := rfl
  have v3 : IntKind.i64.wrap 3 = 3 := rfl
  have v4 : IntKind.i64.wrap 4 = 4 := rfl
  refine cps fun Q hQ => ?_
  go_enter Tryz.func60, Tryz.ntmps60
  go_upto_region 3 with (go_at_call 83; go_must (refine (k0 _).mono ?_); rintro e w1 ⟨rfl, hb1⟩; have R1_0 := (hb1.block (w.heap.size) (by first | (simp; done) | (simp; omega) | omega)).trans ((Below.heap_alloc _ _ _ (by first | (simp; done) | (simp; omega) | omega)).trans ((Below.heap_alloc _ _ _ (by first | (simp; done) | (simp; omega) | omega)).trans (rownew' _ _ _ _ (by simp)))); have z1_0 : w.heap.size < w1.heap.size := Nat.lt_of_lt_of_le (by first | (simp; done) | (simp; omega) | omega) hb1.size; have c1_0_0 := rowcell R1_0 0; have c1_0_1 := rowcell R1_0 1; have c1_0_2 := rowcell R1_0 2; have c1_0_3 := rowcell R1_0 3; have c1_0_4 := rowcell R1_0 4; have c1_0_5 := rowcell R1_0 5; simp only [List.getElem?_toArray, List.getElem?_cons_zero, List.getElem?_cons_succ] at c1_0_0 c1_0_1 c1_0_2 c1_0_3 c1_0_4 c1_0_5; have HR1_0 : Hid _ := R1_0; clear R1_0; have R1_1 := (hb1.block (w.heap.size + 1) (by first | (simp; done) | (simp; omega) | omega)).trans ((Below.heap_alloc _ _ _ (by first | (simp; done) | (simp; omega) | omega)).trans (rownew' _ _ _ _ (by simp))); have z1_1 : w.heap.size + 1 < w1.heap.size := Nat.lt_of_lt_of_le (by first | (simp; done) | (simp; omega) | omega) hb1.size; have c1_1_0 := rowcell R1_1 0; have c1_1_1 := rowcell R1_1 1; have c1_1_2 := rowcell R1_1 2; have c1_1_3 := rowcell R1_1 3; have c1_1_4 := rowcell R1_1 4; have c1_1_5 := rowcell R1_1 5; simp only [List.getElem?_toArray, List.getElem?_cons_zero, List.getElem?_cons_succ] at c1_1_0 c1_1_1 c1_1_2 c1_1_3 c1_1_4 c1_1_5; have HR1_1 : Hid _ := R1_1; clear R1_1; have R1_2 := (hb1.block (w.heap.size + 1 + 1) (by first | (simp; done) | (simp; omega) | omega)).trans (rownew' _ _ _ _ (by simp)); have z1_2 : w.heap.size + 1 + 1 < w1.heap.size := Nat.lt_of_lt_of_le (by first | (simp; done) | (simp; omega) | omega) hb1.size; have HR1_2 : Hid _ := R1_2; clear R1_2; have HB1 : Hid (Below _ _ _) := hb1; clear hb1; have fr0 := rowfree HR1_0.out; have fr1 := rowfree HR1_1.out; have fr2 := rowfree HR1_2.out)
  have HBW : Hid (Below w.heap.size w w1) := cthen (cmore (cmore (cmore (Below.refl _ _) _) _) _) HB1.out
  clear c1_0_0 c1_0_1 c1_0_2 c1_0_3 c1_0_4 c1_0_5 c1_1_0 c1_1_1 c1_1_2 c1_1_3 c1_1_4 c1_1_5 fr0 fr1 fr2
  have x0_ := rowcell HR1_0.out 0
  have x1_ := rowcell HR1_0.out 1
  have x2_ := rowcell HR1_0.out 2
  have x3_ := rowcell HR1_0.out 3
  have x4_ := rowcell HR1_0.out 4
  have x5_ := rowcell HR1_0.out 5
  simp only [List.getElem?_toArray, List.getElem?_cons_zero, List.getElem?_cons_succ] at x0_ x1_ x2_ x3_ x4_ x5_
  go_upto_region 4 with (first
    | (go_at_call 84; have chk := HB2; go_must (refine (k1 _).mono ?_); rintro e w3 ⟨rfl, hb3⟩; have R3_0 := (hb3.block (w.heap.size) (by first | (simp; done) | (simp; omega) | omega)).trans HR2_0.out; have z3_0 : w.heap.size < w3.heap.size := Nat.lt_of_lt_of_le (by first | (simp; done) | (simp; omega) | omega) hb3.size; have HR3_0 : Hid _ := R3_0; clear R3_0; have R3_1 := (hb3.block (w.heap.size + 1) (by first | (simp; done) | (simp; omega) | omega)).trans HR2_1.out; have z3_1 : w.heap.size + 1 < w3.heap.size := Nat.lt_of_lt_of_le (by first | (simp; done) | (simp; omega) | omega) hb3.size; have HR3_1 : Hid _ := R3_1; clear R3_1; have R3_2 := (hb3.block (w.heap.size + 1 + 1) (by first | (simp; done) | (simp; omega) | omega)).trans HR2_2.out; have z3_2 : w.heap.size + 1 + 1 < w3.heap.size := Nat.lt_of_lt_of_le (by first | (simp; done) | (simp; omega) | omega) hb3.size; have HR3_2 : Hid _ := R3_2; clear R3_2; have HB3 : Hid (Below _ _ _) := hb3; clear hb3)
    | (go_at_call 85; go_must (refine (dg _).mono ?_); rintro e w2 ⟨rfl, hb2⟩; have R2_0 := (hb2.block (w.heap.size) (by first | (simp; done) | (simp; omega) | omega)).trans HR1_0.out; have z2_0 : w.heap.size < w2.heap.size := Nat.lt_of_lt_of_le (by first | (simp; done) | (simp; omega) | omega) hb2.size; have HR2_0 : Hid _ := R2_0; clear R2_0; have R2_1 := (hb2.block (w.heap.size + 1) (by first | (simp; done) | (simp; omega) | omega)).trans HR1_1.out; have z2_1 : w.heap.size + 1 < w2.heap.size := Nat.lt_of_lt_of_le (by first | (simp; done) | (simp; omega) | omega) hb2.size; have HR2_1 : Hid _ := R2_1; clear R2_1; have R2_2 := (hb2.block (w.heap.size + 1 + 1) (by first | (simp; done) | (simp; omega) | omega)).trans HR1_2.out; have z2_2 : w.heap.size + 1 + 1 < w2.heap.size := Nat.lt_of_lt_of_le (by first | (simp; done) | (simp; omega) | omega) hb2.size; have HR2_2 : Hid _ := R2_2; clear R2_2; have HB2 : Hid (Below _ _ _) := hb2; clear hb2))
  clear x0_ x1_ x2_ x3_ x4_ x5_
  generalize hw4 : World.alloc w3 _ = w4
  have HR4_0 := (show Hid _ from (by rw [← hw4]; exact (Below.heap_alloc _ _ _ (by omega)).trans HR3_0.out : w4.heap[w.heap.size]? = some (.cells #[.int .i64 1, .bool ng, .int .i64 sg, .int .u64 hg, .int .u64 lg, .bool false] 59 (0, 0))))
  have HR4_1 := (show Hid _ from (by rw [← hw4]; exact (Below.heap_alloc _ _ _ (by omega)).trans HR3_1.out : w4.heap[w.heap.size + 1]? = some (.cells #[.int .i64 1, .bool nl, .int .i64 sl, .int .u64 hl, .int .u64 ll, .bool false] 59 (0, 0))))
  have HR4_2 := (show Hid _ from (by rw [← hw4]; exact (Below.heap_alloc _ _ _ (by omega)).trans HR3_2.out : w4.heap[w.heap.size + 1 + 1]? = some (.cells #[.int .i64 0, .bool false, .int .i64 0, .int .u64 0, .int .u64 0, .bool false] 59 (0, 0))))
  have HR4_3 := (show Hid _ from (by rw [← hw4]; exact rownew _ _ _ : w4.heap[w3.heap.size]? = some (.cells #[.int .u64 a0, .int .u64 a1, .int .u64 a2, .int .u64 a3, .int .u64 a4] 134 (0, 0))))
  have HBX : Hid (Below w.heap.size w w4) := by show Below _ _ _; rw [← hw4]; exact cmore (cthen (cthen (HBW.out) HB2.out) HB3.out) _
  clear hw4
  have y4_0 : w.heap.size < w4.heap.size := rowlt HR4_0.out
  have y4_1 : w.heap.size + 1 < w4.heap.size := rowlt HR4_1.out
  have y4_2 : w.heap.size + 1 + 1 < w4.heap.size := rowlt HR4_2.out
  have y4_3 : w3.heap.size < w4.heap.size := rowlt HR4_3.out
  have cls : ∀ V, Below w4.heap.size w4 V → V.cell? ⟨w.heap.size, 2, none⟩ = some (.int .i64 sg) ∧ V.cell? ⟨w.heap.size + 1, 0, none⟩ = some (.int .i64 1) ∧ V.cell? ⟨w.heap.size + 1, 1, none⟩ = some (.bool nl) ∧ V.cell? ⟨w.heap.size + 1, 2, none⟩ = some (.int .i64 sl) ∧ V.cell? ⟨w.heap.size + 1, 3, none⟩ = some (.int .u64 hl) ∧ V.cell? ⟨w.heap.size + 1, 4, none⟩ = some (.int .u64 ll) ∧ V.cell? ⟨w.heap.size + 1, 5, none⟩ = some (.bool false) := fun V hV => by
    have q0 := (hV.block (w.heap.size) y4_0).trans HR4_0.out
    have q1 := (hV.block (w.heap.size + 1) y4_1).trans HR4_1.out
    exact ⟨rowcell q0 2, rowcell q1 0, rowcell q1 1, rowcell q1 2, rowcell q1 3, rowcell q1 4, rowcell q1 5⟩
  have B4 : Below w4.heap.size w4 w4 := Below.refl _ _
  go_cut [7] from 19 (fun s7 wx => ∃ n : Nat, s7 = .pointer (some ⟨n, 0, none⟩) ∧ Hid (Below w4.heap.size w4 wx) ∧ w4.heap.size ≤ n ∧ Hid (wx.heap[n]? = some (.cells #[.int .u64 y0, .int .u64 y1, .int .u64 y2, .int .u64 y3, .int .u64 y4] 134 (0, 0))))
  case first =>
    refine wpC_region (fun V => V.cell? ⟨w.heap.size, 2, none⟩ = some (.int .i64 sg) ∧ V.cell? ⟨w.heap.size + 1, 0, none⟩ = some (.int .i64 1) ∧ V.cell? ⟨w.heap.size + 1, 1, none⟩ = some (.bool nl) ∧ V.cell? ⟨w.heap.size + 1, 2, none⟩ = some (.int .i64 sl) ∧ V.cell? ⟨w.heap.size + 1, 3, none⟩ = some (.int .u64 hl) ∧ V.cell? ⟨w.heap.size + 1, 4, none⟩ = some (.int .u64 ll) ∧ V.cell? ⟨w.heap.size + 1, 5, none⟩ = some (.bool false)) (by kernel_rfl) ?_
    refine wpC_take 0 (v := ?_) rfl (by kernel_rfl) (fun _ _ _ h => h) (by kernel_rfl) ?_ ?_; rotate_left; · (intro wC hC; obtain ⟨d0, d1, d2, d3, d4, d5, d6⟩ := hC; go_simp <;> with_reducible rfl)
    refine wpC_take 2 (v := ?_) rfl (by kernel_rfl) (fun _ _ _ h => h) (by kernel_rfl) ?_ ?_; rotate_left; · (intro wC hC; obtain ⟨d0, d1, d2, d3, d4, d5, d6⟩ := hC; go_simp <;> with_reducible rfl)
    refine wpC_take 3 (v := ?_) rfl (by kernel_rfl) (fun _ _ _ h => h) (by kernel_rfl) ?_ ?_; rotate_left; · (intro wC hC; obtain ⟨d0, d1, d2, d3, d4, d5, d6⟩ := hC; go_simp <;> with_reducible rfl)
    refine wpC_take 4 (v := ?_) rfl (by kernel_rfl) (fun _ _ _ h => h) (by kernel_rfl) ?_ ?_; rotate_left; · (intro wC hC; obtain ⟨d0, d1, d2, d3, d4, d5, d6⟩ := hC; go_simp <;> with_reducible rfl)
    refine wpC_take 5 (v := ?_) rfl (by kernel_rfl) (fun _ _ _ h => h) (by kernel_rfl) ?_ ?_; rotate_left; · (intro wC hC; obtain ⟨d0, d1, d2, d3, d4, d5, d6⟩ := hC; go_simp <;> with_reducible rfl)
    refine wpC_take 6 (v := ?_) rfl (by kernel_rfl) (fun _ _ _ h => h) (by kernel_rfl) ?_ ?_; rotate_left; · (intro wC hC; obtain ⟨d0, d1, d2, d3, d4, d5, d6⟩ := hC; go_simp <;> with_reducible rfl)
    refine wpC_take 7 (v := ?_) rfl (by kernel_rfl) (fun _ _ _ h => h) (by kernel_rfl) ?_ ?_; rotate_left; · (intro wC hC; obtain ⟨d0, d1, d2, d3, d4, d5, d6⟩ := hC; go_simp <;> with_reducible rfl)
    refine wpC_take 8 (v := ?_) rfl (by kernel_rfl) (fun _ _ _ h => h) (by kernel_rfl) ?_ ?_; rotate_left; · (intro wC hC; obtain ⟨d0, d1, d2, d3, d4, d5, d6⟩ := hC; go_simp <;> with_reducible rfl)
    refine wpC_two 1 10 rfl rfl (by kernel_rfl) (by kernel_rfl) (by kernel_rfl) (cls _ (bdrew B4)) (fun K hK => ?_) (fun K hK => ?_)
    · skip
      go_simp
      go_wp2_with ((go_at_call 85; refine (dl _).mono ?_; rintro e w5 ⟨rfl, hb5⟩; have B5 := bthen (bdrew B4) hb5))
      try (refine hK _ _ ?_; clear hK K)
      refine wpC_two 9 10 rfl rfl (by kernel_rfl) (by kernel_rfl) (by kernel_rfl) (cls _ B5) (fun K hK => ?_) (fun K hK => ?_)
      · skip
        go_simp
        go_wp2_with ((go_at_call 84; refine (k2 _).mono ?_; rintro e w6 ⟨rfl, hb6⟩; have B6 := bthen (B5) hb6))
        try (refine hK _ _ ?_; clear hK K)
        refine wpC_step 10 rfl (by kernel_rfl) (by kernel_rfl) (cls _ B6) (fun K hK => ?_)
        go_simp
        try (refine hK _ _ ?_; clear hK K)
        refine wpC_step 11 rfl (by kernel_rfl) (by kernel_rfl) (cls _ (bmore B6 _)) (fun K hK => ?_)
        go_simp
        try (refine hK _ _ ?_; clear hK K)
        refine wpC_done (by kernel_rfl) (cls _ (bmore B6 _)) ?_
        go_wp2_with fail
        go_meet
        case rel => exact ⟨_, rfl, bmore B6 _, B6.size, rownew _ _ _⟩
      · skip
        go_simp
        try (refine hK _ _ ?_; clear hK K)
        refine wpC_step 9 rfl (by kernel_rfl) (by kernel_rfl) (cls _ (bmore B5 _)) (fun K hK => ?_)
        go_simp
        go_wp2_with ((go_at_call 84; refine (k2 _).mono ?_; rintro e w6 ⟨rfl, hb6⟩; have B6 := bthen (bmore B5 _) hb6; have R6 := (hb6.block (w5.heap.size) (by simp)).trans (rownew _ _ _); have rf := rowfree R6; have rl := rowlt R6; have rc0 := rowcell R6 0; have rc1 := rowcell R6 1; have rc2 := rowcell R6 2; have rc3 := rowcell R6 3; have rc4 := rowcell R6 4; simp only [List.getElem?_toArray, List.getElem?_cons_zero, List.getElem?_cons_succ] at rc0 rc1 rc2 rc3 rc4))
        try (refine hK _ _ ?_; clear hK K)
        have y5 := B5.size
        refine wpC_step 11 rfl (by kernel_rfl) (by kernel_rfl) (cls _ B6) (fun K hK => ?_)
        go_simp
        try (refine hK _ _ ?_; clear hK K)
        refine wpC_done (by kernel_rfl) (cls _ (cset5 B6 y5)) ?_
        go_wp2_with fail
        go_meet
        case rel => exact ⟨_, rfl, cset5 B6 y5, y5, row5 R6⟩
    · skip
      go_simp
      try (refine hK _ _ ?_; clear hK K)
      refine wpC_step 1 rfl (by kernel_rfl) (by kernel_rfl) (cls _ (bmore (bdrew B4) _)) (fun K hK => ?_)
      go_simp
      go_wp2_with ((go_at_call 85; refine (dl _).mono ?_; rintro e w5 ⟨rfl, hb5⟩; have B5 := bthen (bmore (bdrew B4) _) hb5; have R5 := (hb5.block (w4.heap.size) (by simp)).trans (rownew _ _ _); have y5 := rowlt R5))
      try (refine hK _ _ ?_; clear hK K)
      refine wpC_step 9 rfl (by kernel_rfl) (by kernel_rfl) (cls _ B5) (fun K hK => ?_)
      go_simp
      go_wp2_with ((go_at_call 84; refine (k2 _).mono ?_; rintro e w6 ⟨rfl, hb6⟩; have B6 := bthen (B5) hb6; have R6 := (hb6.block (w4.heap.size) y5).trans (R5); have rf := rowfree R6; have rl := rowlt R6; have rc0 := rowcell R6 0; have rc1 := rowcell R6 1; have rc2 := rowcell R6 2; have rc3 := rowcell R6 3; have rc4 := rowcell R6 4; simp only [List.getElem?_toArray, List.getElem?_cons_zero, List.getElem?_cons_succ] at rc0 rc1 rc2 rc3 rc4))
      try (refine hK _ _ ?_; clear hK K)
      refine wpC_step 11 rfl (by kernel_rfl) (by kernel_rfl) (cls _ B6) (fun K hK => ?_)
      go_simp
      try (refine hK _ _ ?_; clear hK K)
      refine wpC_done (by kernel_rfl) (cls _ (cset5 B6 (Nat.le_refl _))) ?_
      go_wp2_with fail
      go_meet
      case rel => exact ⟨_, rfl, cset5 B6 (Nat.le_refl _), Nat.le_refl _, row5 R6⟩
  case rest =>
    obtain ⟨n, rfl, hbx, hn, hrx⟩ := hcut
    have HB4 : Hid (Below w4.heap.size w4 wc) := hbx.out
    have HR5_0 := (show Hid _ from (hbx.out.block (w.heap.size) y4_0).trans HR4_0.out)
    have HR5_1 := (show Hid _ from (hbx.out.block (w.heap.size + 1) y4_1).trans HR4_1.out)
    have HR5_2 := (show Hid _ from (hbx.out.block (w.heap.size + 1 + 1) y4_2).trans HR4_2.out)
    have HR5_3 := (show Hid _ from (hbx.out.block (w3.heap.size) y4_3).trans HR4_3.out)
    have HR5_4 := hrx
    have z5_0 : w.heap.size < wc.heap.size := rowlt HR5_0.out
    have z5_1 : w.heap.size + 1 < wc.heap.size := rowlt HR5_1.out
    have z5_2 : w.heap.size + 1 + 1 < wc.heap.size := rowlt HR5_2.out
    have z5_3 : w3.heap.size < wc.heap.size := rowlt HR5_3.out
    have z5_4 : n < wc.heap.size := rowlt HR5_4.out
    have y5_3 : w.heap.size + 1 + 1 < w3.heap.size := by omega
    have HBY : Hid (Below w.heap.size w wc) := cthen HBX.out HB4.out
    clear hbx hrx cls B4 HBX HB4
    have k3_0 := rowcell HR5_3.out 0
    have k3_1 := rowcell HR5_3.out 1
    have k3_2 := rowcell HR5_3.out 2
    have k3_3 := rowcell HR5_3.out 3
    have k3_4 := rowcell HR5_3.out 4
    have k4_0 := rowcell HR5_4.out 0
    have k4_1 := rowcell HR5_4.out 1
    have k4_2 := rowcell HR5_4.out 2
    have k4_3 := rowcell HR5_4.out 3
    have k4_4 := rowcell HR5_4.out 4
    have k0_1 := rowcell HR5_0.out 1
    have k1_1 := rowcell HR5_1.out 1
    simp only [List.getElem?_toArray, List.getElem?_cons_zero, List.getElem?_cons_succ] at k0_1 k1_1 k3_0 k3_1 k3_2 k3_3 k3_4 k4_0 k4_1 k4_2 k4_3 k4_4
    go_wp2_with (first
      | (go_at_call 86; go_must (refine (k3 _).mono ?_); rintro e w6 ⟨rfl, hb6⟩; have R6_0 := (hb6.block (w.heap.size) (by first | (simp; done) | (simp; omega) | omega)).trans HR5_0.out; have z6_0 : w.heap.size < w6.heap.size := Nat.lt_of_lt_of_le (by first | (simp; done) | (simp; omega) | omega) hb6.size; have c6_0_1 := rowcell R6_0 1; simp only [List.getElem?_toArray, List.getElem?_cons_zero, List.getElem?_cons_succ] at c6_0_1; have HR6_0 : Hid _ := R6_0; clear R6_0; have R6_1 := (hb6.block (w.heap.size + 1) (by first | (simp; done) | (simp; omega) | omega)).trans HR5_1.out; have z6_1 : w.heap.size + 1 < w6.heap.size := Nat.lt_of_lt_of_le (by first | (simp; done) | (simp; omega) | omega) hb6.size; have c6_1_1 := rowcell R6_1 1; simp only [List.getElem?_toArray, List.getElem?_cons_zero, List.getElem?_cons_succ] at c6_1_1; have HR6_1 : Hid _ := R6_1; clear R6_1; have R6_2 := (hb6.block (w.heap.size + 1 + 1) (by first | (simp; done) | (simp; omega) | omega)).trans HR5_2.out; have z6_2 : w.heap.size + 1 + 1 < w6.heap.size := Nat.lt_of_lt_of_le (by first | (simp; done) | (simp; omega) | omega) hb6.size; have HR6_2 : Hid _ := R6_2; clear R6_2; have R6_3 := (hb6.block (w3.heap.size) (by first | (simp; done) | (simp; omega) | omega)).trans HR5_3.out; have z6_3 : w3.heap.size < w6.heap.size := Nat.lt_of_lt_of_le (by first | (simp; done) | (simp; omega) | omega) hb6.size; have c6_3_0 := rowcell R6_3 0; have c6_3_1 := rowcell R6_3 1; have c6_3_2 := rowcell R6_3 2; have c6_3_3 := rowcell R6_3 3; have c6_3_4 := rowcell R6_3 4; simp only [List.getElem?_toArray, List.getElem?_cons_zero, List.getElem?_cons_succ] at c6_3_0 c6_3_1 c6_3_2 c6_3_3 c6_3_4; have HR6_3 : Hid _ := R6_3; clear R6_3; have R6_4 := (hb6.block (n) (by first | (simp; done) | (simp; omega) | omega)).trans HR5_4.out; have z6_4 : n < w6.heap.size := Nat.lt_of_lt_of_le (by first | (simp; done) | (simp; omega) | omega) hb6.size; have c6_4_0 := rowcell R6_4 0; have c6_4_1 := rowcell R6_4 1; have c6_4_2 := rowcell R6_4 2; have c6_4_3 := rowcell R6_4 3; have c6_4_4 := rowcell R6_4 4; simp only [List.getElem?_toArray, List.getElem?_cons_zero, List.getElem?_cons_succ] at c6_4_0 c6_4_1 c6_4_2 c6_4_3 c6_4_4; have HR6_4 : Hid _ := R6_4; clear R6_4; have HB6 : Hid (Below _ _ _) := hb6; clear hb6)
      | (go_at_call 87; go_must (refine (k4 _).mono ?_); rintro e w7 ⟨rfl, hb7⟩; have R7_0 := (hb7.block (w.heap.size) (by first | (simp; done) | (simp; omega) | omega)).trans ((Below.heap_alloc _ _ _ (by first | (simp; done) | (simp; omega) | omega)).trans HR6_0.out); have z7_0 : w.heap.size < w7.heap.size := Nat.lt_of_lt_of_le (by first | (simp; done) | (simp; omega) | omega) hb7.size; have HR7_0 : Hid _ := R7_0; clear R7_0; have R7_1 := (hb7.block (w.heap.size + 1) (by first | (simp; done) | (simp; omega) | omega)).trans ((Below.heap_alloc _ _ _ (by first | (simp; done) | (simp; omega) | omega)).trans HR6_1.out); have z7_1 : w.heap.size + 1 < w7.heap.size := Nat.lt_of_lt_of_le (by first | (simp; done) | (simp; omega) | omega) hb7.size; have HR7_1 : Hid _ := R7_1; clear R7_1; have R7_2 := (hb7.block (w.heap.size + 1 + 1) (by first | (simp; done) | (simp; omega) | omega)).trans ((Below.heap_alloc _ _ _ (by first | (simp; done) | (simp; omega) | omega)).trans HR6_2.out); have z7_2 : w.heap.size + 1 + 1 < w7.heap.size := Nat.lt_of_lt_of_le (by first | (simp; done) | (simp; omega) | omega) hb7.size; have c7_2_0 := rowcell R7_2 0; have c7_2_1 := rowcell R7_2 1; have c7_2_2 := rowcell R7_2 2; have c7_2_3 := rowcell R7_2 3; have c7_2_4 := rowcell R7_2 4; have c7_2_5 := rowcell R7_2 5; simp only [List.getElem?_toArray, List.getElem?_cons_zero, List.getElem?_cons_succ] at c7_2_0 c7_2_1 c7_2_2 c7_2_3 c7_2_4 c7_2_5; have HR7_2 : Hid _ := R7_2; clear R7_2; have R7_3 := (hb7.block (w3.heap.size) (by first | (simp; done) | (simp; omega) | omega)).trans ((Below.heap_alloc _ _ _ (by first | (simp; done) | (simp; omega) | omega)).trans HR6_3.out); have z7_3 : w3.heap.size < w7.heap.size := Nat.lt_of_lt_of_le (by first | (simp; done) | (simp; omega) | omega) hb7.size; have HR7_3 : Hid _ := R7_3; clear R7_3; have R7_4 := (hb7.block (n) (by first | (simp; done) | (simp; omega) | omega)).trans ((Below.heap_alloc _ _ _ (by first | (simp; done) | (simp; omega) | omega)).trans HR6_4.out); have z7_4 : n < w7.heap.size := Nat.lt_of_lt_of_le (by first | (simp; done) | (simp; omega) | omega) hb7.size; have HR7_4 : Hid _ := R7_4; clear R7_4; have R7_5 := (hb7.block (w6.heap.size) (by first | (simp; done) | (simp; omega) | omega)).trans (rownew' _ _ _ _ (by simp)); have z7_5 : w6.heap.size < w7.heap.size := Nat.lt_of_lt_of_le (by first | (simp; done) | (simp; omega) | omega) hb7.size; have c7_5_0 := rowcell R7_5 0; have c7_5_1 := rowcell R7_5 1; have c7_5_2 := rowcell R7_5 2; have c7_5_3 := rowcell R7_5 3; have c7_5_4 := rowcell R7_5 4; simp only [List.getElem?_toArray, List.getElem?_cons_zero, List.getElem?_cons_succ] at c7_5_0 c7_5_1 c7_5_2 c7_5_3 c7_5_4; have HR7_5 : Hid _ := R7_5; clear R7_5; have HB7 : Hid (Below _ _ _) := hb7; clear hb7; have f5 := rowfree HR7_5.out; have f2 := rowfree HR7_2.out))
    refine bodyPost_ret (v := .tuple #[.agg #[.int .i64 0, .bool false, .int .i64 0, .int .u64 0, .int .u64 0, .bool false], .nilIface]) (by simp [results, Tryz.results60, go_sem, c7_2_0, c7_2_1, c7_2_2, c7_2_3, c7_2_4, c7_2_5, f2, z7_2]; done) rfl (hQ.out _ _ ⟨rfl, ?_⟩)
    exact cset6 (cset5 (cthen (cmore (cthen (HBY.out) HB6.out) _) HB7.out) (by omega)) (by omega)
set_option maxHeartbeats 8000000 in
theorem freals_swap_same (ng : Bool) (sg : Int) (hg lg : Nat) (nl : Bool) (sl : Int) (hl ll : Nat) (zz D E : Int) (kk : Nat) (a0 a1 a2 a3 a4 y0 y1 y2 y3 y4 p0 p1 p2 p3 p4 : Nat) (r0 r1 r2 r3 r4 o o2 : Nat) (uu vv sc : Int) (k : Nat) (t : Bool) (K : Int) (B : Bool) (S : Int) (H L : Nat) (T : Bool)
    (k0 : ∀ w, Calls Tryz.prog 83 #[exV 1 nl sl hl ll false, exV 1 ng sg hg lg false] w fun e w' => e = .returned (.int .i64 zz) ∧ Below w.heap.size w w')
    (hz : decide (zz < 0) = true)
    (k1 : ∀ w, Calls Tryz.prog 84 #[.agg #[.int .u64 hg, .int .u64 lg], .int .i64 191] w fun e w' => e = .returned (.agg #[.int .u64 a0, .int .u64 a1, .int .u64 a2, .int .u64 a3, .int .u64 a4]) ∧ Below w.heap.size w w')
    (q1 : IntKind.i64.wrap (sg - sl) = D) (q2 : IntKind.i64.wrap (191 - D) = E) (q3 : (if E < 0 then 0 else E) = (kk : Int))
    (k2 : ∀ w, Calls Tryz.prog 84 #[.agg #[.int .u64 hl, .int .u64 ll], .int .i64 kk] w fun e w' => e = .returned (.agg #[.int .u64 y0, .int .u64 y1, .int .u64 y2, .int .u64 y3, .int .u64 y4]) ∧ Below w.heap.size w w')
    (k3 : ∀ w, Calls Tryz.prog 86 #[.agg #[.int .u64 a0, .int .u64 a1, .int .u64 a2, .int .u64 a3, .int .u64 a4], .agg #[.int .u64 y0, .int .u64 y1, .int .u64 y2, .int .u64 y3, .int .u64 y4]] w fun e w' => e = .returned (.agg #[.int .u64 p0, .int .u64 p1, .int .u64 p2, .int .u64 p3, .int .u64 p4]) ∧ Below w.heap.size w w')
    (hs : (ng == nl) = true)
    (h0 : (decide ((p0 : Int) = 0) && decide ((p1 : Int) = 0) && decide ((p2 : Int) = 0) && decide ((p3 : Int) = 0) && decide ((p4 : Int) = 0)) = false)
    (k5 : ∀ w, Calls Tryz.prog 88 #[.agg #[.int .u64 p0, .int .u64 p1, .int .u64 p2, .int .u64 p3, .int .u64 p4]] w fun e w' => e = .returned (.tuple #[.agg #[.int .u64 r0, .int .u64 r1, .int .u64 r2, .int .u64 r3, .int .u64 r4], .int .i64 k]) ∧ Below w.heap.size w w')
    (q4 : IntKind.i64.wrap (sg + 1) = uu) (q5 : IntKind.i64.wrap (uu - (k : Int)) = vv) (q8 : IntKind.i64.wrap (vv - 127) = sc) (q6 : bits BinOp.or IntKind.u64 (r2 : Int) (r1 : Int) = (o : Int)) (q9 : bits BinOp.or IntKind.u64 (o : Int) (r0 : Int) = (o2 : Int)) (q7 : ((o2 : Int) != 0) = t)
    (k6 : ∀ w, Calls Tryz.prog 56 #[.bool ng, .int .u64 r4, .int .u64 r3, .int .i64 sc, .bool t] w fun e w' => e = .returned (.tuple #[exV K B S H L T, .nilIface]) ∧ Below w.heap.size w w') (w : World) :
    Calls Tryz.prog 60 #[exV 1 nl sl hl ll false, exV 1 ng sg hg lg false] w fun e w' => e = .returned (.tuple #[exV K B S H L T, .nilIface]) ∧ Below w.heap.size w w' := by
  have dg := fdigits_any 1 ng sg hg lg false
  have dl := fdigits_any 1 nl sl hl ll false
  unfold exV at *
  have heq := eql5_words p0 p1 p2 p3 p4
  rw [h0] at heq
  have v0 : IntKind.i64.wrap 0 = 0 := rfl
  have v1 : IntKind.i64.wrap 1 = 1 := rfl
  have v2 : IntKind.i64.wrap 2 = 2 := rfl
  have v3 : IntKind.i64.wrap 3 = 3 := rfl
  have v4 : IntKind.i64.wrap 4 = 4 := rfl
  refine cps fun Q hQ => ?_
  go_enter Tryz.func60, Tryz.ntmps60
  go_upto_region 3 with (go_at_call 83; go_must (refine (k0 _).mono ?_); rintro e wa ⟨rfl, hb1⟩; have RA_0 := (hb1.block (w.heap.size) (by first | (simp; done) | (simp; omega) | omega)).trans ((Below.heap_alloc _ _ _ (by first | (simp; done) | (simp; omega) | omega)).trans ((Below.heap_alloc _ _ _ (by first | (simp; done) | (simp; omega) | omega)).trans (rownew' _ _ _ _ (by simp)))); have za_0 : w.heap.size < wa.heap.size := Nat.lt_of_lt_of_le (by first | (simp; done) | (simp; omega) | omega) hb1.size; have ca_0_0 := rowcell RA_0 0; have ca_0_1 := rowcell RA_0 1; have ca_0_2 := rowcell RA_0 2; have ca_0_3 := rowcell RA_0 3; have ca_0_4 := rowcell RA_0 4; have ca_0_5 := rowcell RA_0 5; simp only [List.getElem?_toArray, List.getElem?_cons_zero, List.getElem?_cons_succ] at ca_0_0 ca_0_1 ca_0_2 ca_0_3 ca_0_4 ca_0_5; have HA1_0 : Hid _ := RA_0; clear RA_0; have RA_1 := (hb1.block (w.heap.size + 1) (by first | (simp; done) | (simp; omega) | omega)).trans ((Below.heap_alloc _ _ _ (by first | (simp; done) | (simp; omega) | omega)).trans (rownew' _ _ _ _ (by simp))); have za_1 : w.heap.size + 1 < wa.heap.size := Nat.lt_of_lt_of_le (by first | (simp; done) | (simp; omega) | omega) hb1.size; have ca_1_0 := rowcell RA_1 0; have ca_1_1 := rowcell RA_1 1; have ca_1_2 := rowcell RA_1 2; have ca_1_3 := rowcell RA_1 3; have ca_1_4 := rowcell RA_1 4; have ca_1_5 := rowcell RA_1 5; simp only [List.getElem?_toArray, List.getElem?_cons_zero, List.getElem?_cons_succ] at ca_1_0 ca_1_1 ca_1_2 ca_1_3 ca_1_4 ca_1_5; have HA1_1 : Hid _ := RA_1; clear RA_1; have RA_2 := (hb1.block (w.heap.size + 1 + 1) (by first | (simp; done) | (simp; omega) | omega)).trans (rownew' _ _ _ _ (by simp)); have za_2 : w.heap.size + 1 + 1 < wa.heap.size := Nat.lt_of_lt_of_le (by first | (simp; done) | (simp; omega) | omega) hb1.size; have HA1_2 : Hid _ := RA_2; clear RA_2; have HA1 : Hid (Below _ _ _) := hb1; clear hb1; have fr0 := rowfree HA1_0.out; have fr1 := rowfree HA1_1.out; have fr2 := rowfree HA1_2.out)
  generalize hw1 : World.setCell _ _ _ = w1
  have HR1_0 : Hid (w1.heap[w.heap.size]? = some (.cells #[.int .i64 1, .bool ng, .int .i64 sg, .int .u64 hg, .int .u64 lg, .bool false] 59 (0, 0))) := by show _ = _; rw [← hw1]; exact rowE6_other (rowE6 HA1_0.out) (by omega)
  have HR1_1 : Hid (w1.heap[w.heap.size + 1]? = some (.cells #[.int .i64 1, .bool nl, .int .i64 sl, .int .u64 hl, .int .u64 ll, .bool false] 59 (0, 0))) := by show _ = _; rw [← hw1]; exact rowE6 (rowE6_other HA1_1.out (by omega))
  have HR1_2 : Hid (w1.heap[w.heap.size + 1 + 1]? = some (.cells #[.int .i64 0, .bool false, .int .i64 0, .int .u64 0, .int .u64 0, .bool false] 59 (0, 0))) := by show _ = _; rw [← hw1]; exact rowE6_other (rowE6_other HA1_2.out (by omega)) (by omega)
  have HBW : Hid (Below w.heap.size w w1) := by show Below _ _ _; rw [← hw1]; exact cset6 (cset6 (cthen (cmore (cmore (cmore (Below.refl _ _) _) _) _) HA1.out) (Nat.le_refl _)) (by omega)
  clear ca_0_0 ca_0_1 ca_0_2 ca_0_3 ca_0_4 ca_0_5 ca_1_0 ca_1_1 ca_1_2 ca_1_3 ca_1_4 ca_1_5 fr0 fr1 fr2 hw1 za_0 za_1 za_2
  have z1_0 : w.heap.size < w1.heap.size := rowlt HR1_0.out
  have z1_1 : w.heap.size + 1 < w1.heap.size := rowlt HR1_1.out
  have z1_2 : w.heap.size + 1 + 1 < w1.heap.size := rowlt HR1_2.out
  have x0_ := rowcell HR1_0.out 0
  have x1_ := rowcell HR1_0.out 1
  have x2_ := rowcell HR1_0.out 2
  have x3_ := rowcell HR1_0.out 3
  have x4_ := rowcell HR1_0.out 4
  have x5_ := rowcell HR1_0.out 5
  simp only [List.getElem?_toArray, List.getElem?_cons_zero, List.getElem?_cons_succ] at x0_ x1_ x2_ x3_ x4_ x5_
  go_upto_region 4 with (first
    | (go_at_call 84; have chk := HB2; go_must (refine (k1 _).mono ?_); rintro e w3 ⟨rfl, hb3⟩; have R3_0 := (hb3.block (w.heap.size) (by first | (simp; done) | (simp; omega) | omega)).trans HR2_0.out; have z3_0 : w.heap.size < w3.heap.size := Nat.lt_of_lt_of_le (by first | (simp; done) | (simp; omega) | omega) hb3.size; have HR3_0 : Hid _ := R3_0; clear R3_0; have R3_1 := (hb3.block (w.heap.size + 1) (by first | (simp; done) | (simp; omega) | omega)).trans HR2_1.out; have z3_1 : w.heap.size + 1 < w3.heap.size := Nat.lt_of_lt_of_le (by first | (simp; done) | (simp; omega) | omega) hb3.size; have HR3_1 : Hid _ := R3_1; clear R3_1; have R3_2 := (hb3.block (w.heap.size + 1 + 1) (by first | (simp; done) | (simp; omega) | omega)).trans HR2_2.out; have z3_2 : w.heap.size + 1 + 1 < w3.heap.size := Nat.lt_of_lt_of_le (by first | (simp; done) | (simp; omega) | omega) hb3.size; have HR3_2 : Hid _ := R3_2; clear R3_2; have HB3 : Hid (Below _ _ _) := hb3; clear hb3)
    | (go_at_call 85; go_must (refine (dg _).mono ?_); rintro e w2 ⟨rfl, hb2⟩; have R2_0 := (hb2.block (w.heap.size) (by first | (simp; done) | (simp; omega) | omega)).trans HR1_0.out; have z2_0 : w.heap.size < w2.heap.size := Nat.lt_of_lt_of_le (by first | (simp; done) | (simp; omega) | omega) hb2.size; have HR2_0 : Hid _ := R2_0; clear R2_0; have R2_1 := (hb2.block (w.heap.size + 1) (by first | (simp; done) | (simp; omega) | omega)).trans HR1_1.out; have z2_1 : w.heap.size + 1 < w2.heap.size := Nat.lt_of_lt_of_le (by first | (simp; done) | (simp; omega) | omega) hb2.size; have HR2_1 : Hid _ := R2_1; clear R2_1; have R2_2 := (hb2.block (w.heap.size + 1 + 1) (by first | (simp; done) | (simp; omega) | omega)).trans HR1_2.out; have z2_2 : w.heap.size + 1 + 1 < w2.heap.size := Nat.lt_of_lt_of_le (by first | (simp; done) | (simp; omega) | omega) hb2.size; have HR2_2 : Hid _ := R2_2; clear R2_2; have HB2 : Hid (Below _ _ _) := hb2; clear hb2))
  clear x0_ x1_ x2_ x3_ x4_ x5_
  generalize hw4 : World.alloc w3 _ = w4
  have HR4_0 := (show Hid _ from (by rw [← hw4]; exact (Below.heap_alloc _ _ _ (by omega)).trans HR3_0.out : w4.heap[w.heap.size]? = some (.cells #[.int .i64 1, .bool ng, .int .i64 sg, .int .u64 hg, .int .u64 lg, .bool false] 59 (0, 0))))
  have HR4_1 := (show Hid _ from (by rw [← hw4]; exact (Below.heap_alloc _ _ _ (by omega)).trans HR3_1.out : w4.heap[w.heap.size + 1]? = some (.cells #[.int .i64 1, .bool nl, .int .i64 sl, .int .u64 hl, .int .u64 ll, .bool false] 59 (0, 0))))
  have HR4_2 := (show Hid _ from (by rw [← hw4]; exact (Below.heap_alloc _ _ _ (by omega)).trans HR3_2.out : w4.heap[w.heap.size + 1 + 1]? = some (.cells #[.int .i64 0, .bool false, .int .i64 0, .int .u64 0, .int .u64 0, .bool false] 59 (0, 0))))
  have HR4_3 := (show Hid _ from (by rw [← hw4]; exact rownew _ _ _ : w4.heap[w3.heap.size]? = some (.cells #[.int .u64 a0, .int .u64 a1, .int .u64 a2, .int .u64 a3, .int .u64 a4] 134 (0, 0))))
  have HBX : Hid (Below w.heap.size w w4) := by show Below _ _ _; rw [← hw4]; exact cmore (cthen (cthen (HBW.out) HB2.out) HB3.out) _
  clear hw4
  have y4_0 : w.heap.size < w4.heap.size := rowlt HR4_0.out
  have y4_1 : w.heap.size + 1 < w4.heap.size := rowlt HR4_1.out
  have y4_2 : w.heap.size + 1 + 1 < w4.heap.size := rowlt HR4_2.out
  have y4_3 : w3.heap.size < w4.heap.size := rowlt HR4_3.out
  have cls : ∀ V, Below w4.heap.size w4 V → V.cell? ⟨w.heap.size, 2, none⟩ = some (.int .i64 sg) ∧ V.cell? ⟨w.heap.size + 1, 0, none⟩ = some (.int .i64 1) ∧ V.cell? ⟨w.heap.size + 1, 1, none⟩ = some (.bool nl) ∧ V.cell? ⟨w.heap.size + 1, 2, none⟩ = some (.int .i64 sl) ∧ V.cell? ⟨w.heap.size + 1, 3, none⟩ = some (.int .u64 hl) ∧ V.cell? ⟨w.heap.size + 1, 4, none⟩ = some (.int .u64 ll) ∧ V.cell? ⟨w.heap.size + 1, 5, none⟩ = some (.bool false) := fun V hV => by
    have q0 := (hV.block (w.heap.size) y4_0).trans HR4_0.out
    have q1 := (hV.block (w.heap.size + 1) y4_1).trans HR4_1.out
    exact ⟨rowcell q0 2, rowcell q1 0, rowcell q1 1, rowcell q1 2, rowcell q1 3, rowcell q1 4, rowcell q1 5⟩
  have B4 : Below w4.heap.size w4 w4 := Below.refl _ _
  go_cut [7] from 19 (fun s7 wx => ∃ n : Nat, s7 = .pointer (some ⟨n, 0, none⟩) ∧ Hid (Below w4.heap.size w4 wx) ∧ w4.heap.size ≤ n ∧ Hid (wx.heap[n]? = some (.cells #[.int .u64 y0, .int .u64 y1, .int .u64 y2, .int .u64 y3, .int .u64 y4] 134 (0, 0))))
  case first =>
    refine wpC_region (fun V => V.cell? ⟨w.heap.size, 2, none⟩ = some (.int .i64 sg) ∧ V.cell? ⟨w.heap.size + 1, 0, none⟩ = some (.int .i64 1) ∧ V.cell? ⟨w.heap.size + 1, 1, none⟩ = some (.bool nl) ∧ V.cell? ⟨w.heap.size + 1, 2, none⟩ = some (.int .i64 sl) ∧ V.cell? ⟨w.heap.size + 1, 3, none⟩ = some (.int .u64 hl) ∧ V.cell? ⟨w.heap.size + 1, 4, none⟩ = some (.int .u64 ll) ∧ V.cell? ⟨w.heap.size + 1, 5, none⟩ = some (.bool false)) (by kernel_rfl) ?_
    refine wpC_take 0 (v := ?_) rfl (by kernel_rfl) (fun _ _ _ h => h) (by kernel_rfl) ?_ ?_; rotate_left; · (intro wC hC; obtain ⟨d0, d1, d2, d3, d4, d5, d6⟩ := hC; go_simp <;> with_reducible rfl)
    refine wpC_take 2 (v := ?_) rfl (by kernel_rfl) (fun _ _ _ h => h) (by kernel_rfl) ?_ ?_; rotate_left; · (intro wC hC; obtain ⟨d0, d1, d2, d3, d4, d5, d6⟩ := hC; go_simp <;> with_reducible rfl)
    refine wpC_take 3 (v := ?_) rfl (by kernel_rfl) (fun _ _ _ h => h) (by kernel_rfl) ?_ ?_; rotate_left; · (intro wC hC; obtain ⟨d0, d1, d2, d3, d4, d5, d6⟩ := hC; go_simp <;> with_reducible rfl)
    refine wpC_take 4 (v := ?_) rfl (by kernel_rfl) (fun _ _ _ h => h) (by kernel_rfl) ?_ ?_; rotate_left; · (intro wC hC; obtain ⟨d0, d1, d2, d3, d4, d5, d6⟩ := hC; go_simp <;> with_reducible rfl)
    refine wpC_take 5 (v := ?_) rfl (by kernel_rfl) (fun _ _ _ h => h) (by kernel_rfl) ?_ ?_; rotate_left; · (intro wC hC; obtain ⟨d0, d1, d2, d3, d4, d5, d6⟩ := hC; go_simp <;> with_reducible rfl)
    refine wpC_take 6 (v := ?_) rfl (by kernel_rfl) (fun _ _ _ h => h) (by kernel_rfl) ?_ ?_; rotate_left; · (intro wC hC; obtain ⟨d0, d1, d2, d3, d4, d5, d6⟩ := hC; go_simp <;> with_reducible rfl)
    refine wpC_take 7 (v := ?_) rfl (by kernel_rfl) (fun _ _ _ h => h) (by kernel_rfl) ?_ ?_; rotate_left; · (intro wC hC; obtain ⟨d0, d1, d2, d3, d4, d5, d6⟩ := hC; go_simp <;> with_reducible rfl)
    refine wpC_take 8 (v := ?_) rfl (by kernel_rfl) (fun _ _ _ h => h) (by kernel_rfl) ?_ ?_; rotate_left; · (intro wC hC; obtain ⟨d0, d1, d2, d3, d4, d5, d6⟩ := hC; go_simp <;> with_reducible rfl)
    refine wpC_two 1 10 rfl rfl (by kernel_rfl) (by kernel_rfl) (by kernel_rfl) (cls _ (bdrew B4)) (fun K hK => ?_) (fun K hK => ?_)
    · skip
      go_simp
      go_wp2_with ((go_at_call 85; refine (dl _).mono ?_; rintro e w5 ⟨rfl, hb5⟩; have B5 := bthen (bdrew B4) hb5))
      try (refine hK _ _ ?_; clear hK K)
      refine wpC_two 9 10 rfl rfl (by kernel_rfl) (by kernel_rfl) (by kernel_rfl) (cls _ B5) (fun K hK => ?_) (fun K hK => ?_)
      · skip
        go_simp
        go_wp2_with ((go_at_call 84; refine (k2 _).mono ?_; rintro e w6 ⟨rfl, hb6⟩; have B6 := bthen (B5) hb6))
        try (refine hK _ _ ?_; clear hK K)
        refine wpC_step 10 rfl (by kernel_rfl) (by kernel_rfl) (cls _ B6) (fun K hK => ?_)
        go_simp
        try (refine hK _ _ ?_; clear hK K)
        refine wpC_step 11 rfl (by kernel_rfl) (by kernel_rfl) (cls _ (bmore B6 _)) (fun K hK => ?_)
        go_simp
        try (refine hK _ _ ?_; clear hK K)
        refine wpC_done (by kernel_rfl) (cls _ (bmore B6 _)) ?_
        go_wp2_with fail
        go_meet
        case rel => exact ⟨_, rfl, bmore B6 _, B6.size, rownew _ _ _⟩
      · skip
        go_simp
        try (refine hK _ _ ?_; clear hK K)
        refine wpC_step 9 rfl (by kernel_rfl) (by kernel_rfl) (cls _ (bmore B5 _)) (fun K hK => ?_)
        go_simp
        go_wp2_with ((go_at_call 84; refine (k2 _).mono ?_; rintro e w6 ⟨rfl, hb6⟩; have B6 := bthen (bmore B5 _) hb6; have R6 := (hb6.block (w5.heap.size) (by simp)).trans (rownew _ _ _); have rf := rowfree R6; have rl := rowlt R6; have rc0 := rowcell R6 0; have rc1 := rowcell R6 1; have rc2 := rowcell R6 2; have rc3 := rowcell R6 3; have rc4 := rowcell R6 4; simp only [List.getElem?_toArray, List.getElem?_cons_zero, List.getElem?_cons_succ] at rc0 rc1 rc2 rc3 rc4))
        try (refine hK _ _ ?_; clear hK K)
        have y5 := B5.size
        refine wpC_step 11 rfl (by kernel_rfl) (by kernel_rfl) (cls _ B6) (fun K hK => ?_)
        go_simp
        try (refine hK _ _ ?_; clear hK K)
        refine wpC_done (by kernel_rfl) (cls _ (cset5 B6 y5)) ?_
        go_wp2_with fail
        go_meet
        case rel => exact ⟨_, rfl, cset5 B6 y5, y5, row5 R6⟩
    · skip
      go_simp
      try (refine hK _ _ ?_; clear hK K)
      refine wpC_step 1 rfl (by kernel_rfl) (by kernel_rfl) (cls _ (bmore (bdrew B4) _)) (fun K hK => ?_)
      go_simp
      go_wp2_with ((go_at_call 85; refine (dl _).mono ?_; rintro e w5 ⟨rfl, hb5⟩; have B5 := bthen (bmore (bdrew B4) _) hb5; have R5 := (hb5.block (w4.heap.size) (by simp)).trans (rownew _ _ _); have y5 := rowlt R5))
      try (refine hK _ _ ?_; clear hK K)
      refine wpC_step 9 rfl (by kernel_rfl) (by kernel_rfl) (cls _ B5) (fun K hK => ?_)
      go_simp
      go_wp2_with ((go_at_call 84; refine (k2 _).mono ?_; rintro e w6 ⟨rfl, hb6⟩; have B6 := bthen (B5) hb6; have R6 := (hb6.block (w4.heap.size) y5).trans (R5); have rf := rowfree R6; have rl := rowlt R6; have rc0 := rowcell R6 0; have rc1 := rowcell R6 1; have rc2 := rowcell R6 2; have rc3 := rowcell R6 3; have rc4 := rowcell R6 4; simp only [List.getElem?_toArray, List.getElem?_cons_zero, List.getElem?_cons_succ] at rc0 rc1 rc2 rc3 rc4))
      try (refine hK _ _ ?_; clear hK K)
      refine wpC_step 11 rfl (by kernel_rfl) (by kernel_rfl) (cls _ B6) (fun K hK => ?_)
      go_simp
      try (refine hK _ _ ?_; clear hK K)
      refine wpC_done (by kernel_rfl) (cls _ (cset5 B6 (Nat.le_refl _))) ?_
      go_wp2_with fail
      go_meet
      case rel => exact ⟨_, rfl, cset5 B6 (Nat.le_refl _), Nat.le_refl _, row5 R6⟩
  case rest =>
    obtain ⟨n, rfl, hbx, hn, hrx⟩ := hcut
    have HB4 : Hid (Below w4.heap.size w4 wc) := hbx.out
    have HR5_0 := (show Hid _ from (hbx.out.block (w.heap.size) y4_0).trans HR4_0.out)
    have HR5_1 := (show Hid _ from (hbx.out.block (w.heap.size + 1) y4_1).trans HR4_1.out)
    have HR5_2 := (show Hid _ from (hbx.out.block (w.heap.size + 1 + 1) y4_2).trans HR4_2.out)
    have HR5_3 := (show Hid _ from (hbx.out.block (w3.heap.size) y4_3).trans HR4_3.out)
    have HR5_4 := hrx
    have z5_0 : w.heap.size < wc.heap.size := rowlt HR5_0.out
    have z5_1 : w.heap.size + 1 < wc.heap.size := rowlt HR5_1.out
    have z5_2 : w.heap.size + 1 + 1 < wc.heap.size := rowlt HR5_2.out
    have z5_3 : w3.heap.size < wc.heap.size := rowlt HR5_3.out
    have z5_4 : n < wc.heap.size := rowlt HR5_4.out
    have y5_3 : w.heap.size + 1 + 1 < w3.heap.size := by omega
    have HBY : Hid (Below w.heap.size w wc) := cthen HBX.out HB4.out
    clear hbx hrx cls B4 HBX HB4
    have k3_0 := rowcell HR5_3.out 0
    have k3_1 := rowcell HR5_3.out 1
    have k3_2 := rowcell HR5_3.out 2
    have k3_3 := rowcell HR5_3.out 3
    have k3_4 := rowcell HR5_3.out 4
    have k4_0 := rowcell HR5_4.out 0
    have k4_1 := rowcell HR5_4.out 1
    have k4_2 := rowcell HR5_4.out 2
    have k4_3 := rowcell HR5_4.out 3
    have k4_4 := rowcell HR5_4.out 4
    have k0_1 := rowcell HR5_0.out 1
    have k1_1 := rowcell HR5_1.out 1
    simp only [List.getElem?_toArray, List.getElem?_cons_zero, List.getElem?_cons_succ] at k0_1 k1_1 k3_0 k3_1 k3_2 k3_3 k3_4 k4_0 k4_1 k4_2 k4_3 k4_4
    go_wp2_with (first
      | (go_at_call 86; go_must (refine (k3 _).mono ?_); rintro e w6 ⟨rfl, hb6⟩; have R6_0 := (hb6.block (w.heap.size) (by first | (simp; done) | (simp; omega) | omega)).trans HR5_0.out; have z6_0 : w.heap.size < w6.heap.size := Nat.lt_of_lt_of_le (by first | (simp; done) | (simp; omega) | omega) hb6.size; have c6_0_1 := rowcell R6_0 1; simp only [List.getElem?_toArray, List.getElem?_cons_zero, List.getElem?_cons_succ] at c6_0_1; have HR6_0 : Hid _ := R6_0; clear R6_0; have R6_1 := (hb6.block (w.heap.size + 1) (by first | (simp; done) | (simp; omega) | omega)).trans HR5_1.out; have z6_1 : w.heap.size + 1 < w6.heap.size := Nat.lt_of_lt_of_le (by first | (simp; done) | (simp; omega) | omega) hb6.size; have c6_1_1 := rowcell R6_1 1; simp only [List.getElem?_toArray, List.getElem?_cons_zero, List.getElem?_cons_succ] at c6_1_1; have HR6_1 : Hid _ := R6_1; clear R6_1; have R6_2 := (hb6.block (w.heap.size + 1 + 1) (by first | (simp; done) | (simp; omega) | omega)).trans HR5_2.out; have z6_2 : w.heap.size + 1 + 1 < w6.heap.size := Nat.lt_of_lt_of_le (by first | (simp; done) | (simp; omega) | omega) hb6.size; have HR6_2 : Hid _ := R6_2; clear R6_2; have R6_3 := (hb6.block (w3.heap.size) (by first | (simp; done) | (simp; omega) | omega)).trans HR5_3.out; have z6_3 : w3.heap.size < w6.heap.size := Nat.lt_of_lt_of_le (by first | (simp; done) | (simp; omega) | omega) hb6.size; have HR6_3 : Hid _ := R6_3; clear R6_3; have R6_4 := (hb6.block (n) (by first | (simp; done) | (simp; omega) | omega)).trans HR5_4.out; have z6_4 : n < w6.heap.size := Nat.lt_of_lt_of_le (by first | (simp; done) | (simp; omega) | omega) hb6.size; have HR6_4 : Hid _ := R6_4; clear R6_4; have HB6 : Hid (Below _ _ _) := hb6; clear hb6)
      | (go_at_call 88; go_must (refine (k5 _).mono ?_); rintro e w7 ⟨rfl, hb7⟩; have R7_0 := (hb7.block (w.heap.size) (by first | (simp; done) | (simp; omega) | omega)).trans ((Below.heap_alloc _ _ _ (by first | (simp; done) | (simp; omega) | omega)).trans HR6_0.out); have z7_0 : w.heap.size < w7.heap.size := Nat.lt_of_lt_of_le (by first | (simp; done) | (simp; omega) | omega) hb7.size; have c7_0_1 := rowcell R7_0 1; have c7_0_2 := rowcell R7_0 2; simp only [List.getElem?_toArray, List.getElem?_cons_zero, List.getElem?_cons_succ] at c7_0_1 c7_0_2; have HR7_0 : Hid _ := R7_0; clear R7_0; have R7_1 := (hb7.block (w.heap.size + 1) (by first | (simp; done) | (simp; omega) | omega)).trans ((Below.heap_alloc _ _ _ (by first | (simp; done) | (simp; omega) | omega)).trans HR6_1.out); have z7_1 : w.heap.size + 1 < w7.heap.size := Nat.lt_of_lt_of_le (by first | (simp; done) | (simp; omega) | omega) hb7.size; have HR7_1 : Hid _ := R7_1; clear R7_1; have R7_2 := (hb7.block (w.heap.size + 1 + 1) (by first | (simp; done) | (simp; omega) | omega)).trans ((Below.heap_alloc _ _ _ (by first | (simp; done) | (simp; omega) | omega)).trans HR6_2.out); have z7_2 : w.heap.size + 1 + 1 < w7.heap.size := Nat.lt_of_lt_of_le (by first | (simp; done) | (simp; omega) | omega) hb7.size; have HR7_2 : Hid _ := R7_2; clear R7_2; have R7_3 := (hb7.block (w3.heap.size) (by first | (simp; done) | (simp; omega) | omega)).trans ((Below.heap_alloc _ _ _ (by first | (simp; done) | (simp; omega) | omega)).trans HR6_3.out); have z7_3 : w3.heap.size < w7.heap.size := Nat.lt_of_lt_of_le (by first | (simp; done) | (simp; omega) | omega) hb7.size; have HR7_3 : Hid _ := R7_3; clear R7_3; have R7_4 := (hb7.block (n) (by first | (simp; done) | (simp; omega) | omega)).trans ((Below.heap_alloc _ _ _ (by first | (simp; done) | (simp; omega) | omega)).trans HR6_4.out); have z7_4 : n < w7.heap.size := Nat.lt_of_lt_of_le (by first | (simp; done) | (simp; omega) | omega) hb7.size; have HR7_4 : Hid _ := R7_4; clear R7_4; have R7_5 := (hb7.block (w6.heap.size) (by first | (simp; done) | (simp; omega) | omega)).trans (rownew' _ _ _ _ (by simp)); have z7_5 : w6.heap.size < w7.heap.size := Nat.lt_of_lt_of_le (by first | (simp; done) | (simp; omega) | omega) hb7.size; have c7_5_0 := rowcell R7_5 0; have c7_5_1 := rowcell R7_5 1; have c7_5_2 := rowcell R7_5 2; have c7_5_3 := rowcell R7_5 3; have c7_5_4 := rowcell R7_5 4; simp only [List.getElem?_toArray, List.getElem?_cons_zero, List.getElem?_cons_succ] at c7_5_0 c7_5_1 c7_5_2 c7_5_3 c7_5_4; have HR7_5 : Hid _ := R7_5; clear R7_5; have HB7 : Hid (Below _ _ _) := hb7; clear hb7; have g5 := rowfree HR7_5.out; have g2 := rowfree HR7_2.out)
      | (go_at_call 56; go_must (refine (k6 _).mono ?_); rintro e w8 ⟨rfl, hb8⟩; have R8_0 := (hb8.block (w.heap.size) (by first | (simp; done) | (simp; omega) | omega)).trans (row5_other HR7_0.out (by omega)); have z8_0 : w.heap.size < w8.heap.size := Nat.lt_of_lt_of_le (by first | (simp; done) | (simp; omega) | omega) hb8.size; have HR8_0 : Hid _ := R8_0; clear R8_0; have R8_1 := (hb8.block (w.heap.size + 1) (by first | (simp; done) | (simp; omega) | omega)).trans (row5_other HR7_1.out (by omega)); have z8_1 : w.heap.size + 1 < w8.heap.size := Nat.lt_of_lt_of_le (by first | (simp; done) | (simp; omega) | omega) hb8.size; have HR8_1 : Hid _ := R8_1; clear R8_1; have R8_2 := (hb8.block (w.heap.size + 1 + 1) (by first | (simp; done) | (simp; omega) | omega)).trans (row5_other HR7_2.out (by omega)); have z8_2 : w.heap.size + 1 + 1 < w8.heap.size := Nat.lt_of_lt_of_le (by first | (simp; done) | (simp; omega) | omega) hb8.size; have c8_2_0 := rowcell R8_2 0; have c8_2_1 := rowcell R8_2 1; have c8_2_2 := rowcell R8_2 2; have c8_2_3 := rowcell R8_2 3; have c8_2_4 := rowcell R8_2 4; have c8_2_5 := rowcell R8_2 5; simp only [List.getElem?_toArray, List.getElem?_cons_zero, List.getElem?_cons_succ] at c8_2_0 c8_2_1 c8_2_2 c8_2_3 c8_2_4 c8_2_5; have HR8_2 : Hid _ := R8_2; clear R8_2; have R8_3 := (hb8.block (w3.heap.size) (by first | (simp; done) | (simp; omega) | omega)).trans (row5_other HR7_3.out (by omega)); have z8_3 : w3.heap.size < w8.heap.size := Nat.lt_of_lt_of_le (by first | (simp; done) | (simp; omega) | omega) hb8.size; have HR8_3 : Hid _ := R8_3; clear R8_3; have R8_4 := (hb8.block (n) (by first | (simp; done) | (simp; omega) | omega)).trans (row5_other HR7_4.out (by omega)); have z8_4 : n < w8.heap.size := Nat.lt_of_lt_of_le (by first | (simp; done) | (simp; omega) | omega) hb8.size; have HR8_4 : Hid _ := R8_4; clear R8_4; have R8_5 := (hb8.block (w6.heap.size) (by first | (simp; done) | (simp; omega) | omega)).trans (row5 HR7_5.out); have z8_5 : w6.heap.size < w8.heap.size := Nat.lt_of_lt_of_le (by first | (simp; done) | (simp; omega) | omega) hb8.size; have HR8_5 : Hid _ := R8_5; clear R8_5; have HB8 : Hid (Below _ _ _) := hb8; clear hb8; have m2 := rowfree HR8_2.out))
    refine bodyPost_ret (v := .tuple #[.agg #[.int .i64 K, .bool B, .int .i64 S, .int .u64 H, .int .u64 L, .bool T], .nilIface]) (by simp [results, Tryz.results60, go_sem, c8_2_0, c8_2_1, c8_2_2, c8_2_3, c8_2_4, c8_2_5, m2, z8_2]; done) rfl (hQ.out _ _ ⟨rfl, ?_⟩)
    exact cset6 (cthen (cset5 (cthen (cmore (cthen (HBY.out) HB6.out) _) HB7.out) (by omega)) HB8.out) (by omega)
set_option maxHeartbeats 8000000 in
theorem freals_swap_diff (ng : Bool) (sg : Int) (hg lg : Nat) (nl : Bool) (sl : Int) (hl ll : Nat) (zz D E : Int) (kk : Nat) (a0 a1 a2 a3 a4 y0 y1 y2 y3 y4 p0 p1 p2 p3 p4 : Nat) (m0 m1 m2 m3 m4 : Nat) (r0 r1 r2 r3 r4 o o2 : Nat) (uu vv sc : Int) (k : Nat) (t : Bool) (K : Int) (B : Bool) (S : Int) (H L : Nat) (T : Bool)
    (k0 : ∀ w, Calls Tryz.prog 83 #[exV 1 nl sl hl ll false, exV 1 ng sg hg lg false] w fun e w' => e = .returned (.int .i64 zz) ∧ Below w.heap.size w w')
    (hz : decide (zz < 0) = true)
    (k1 : ∀ w, Calls Tryz.prog 84 #[.agg #[.int .u64 hg, .int .u64 lg], .int .i64 191] w fun e w' => e = .returned (.agg #[.int .u64 a0, .int .u64 a1, .int .u64 a2, .int .u64 a3, .int .u64 a4]) ∧ Below w.heap.size w w')
    (q1 : IntKind.i64.wrap (sg - sl) = D) (q2 : IntKind.i64.wrap (191 - D) = E) (q3 : (if E < 0 then 0 else E) = (kk : Int))
    (k2 : ∀ w, Calls Tryz.prog 84 #[.agg #[.int .u64 hl, .int .u64 ll], .int .i64 kk] w fun e w' => e = .returned (.agg #[.int .u64 y0, .int .u64 y1, .int .u64 y2, .int .u64 y3, .int .u64 y4]) ∧ Below w.heap.size w w')
    (k3 : ∀ w, Calls Tryz.prog 86 #[.agg #[.int .u64 a0, .int .u64 a1, .int .u64 a2, .int .u64 a3, .int .u64 a4], .agg #[.int .u64 y0, .int .u64 y1, .int .u64 y2, .int .u64 y3, .int .u64 y4]] w fun e w' => e = .returned (.agg #[.int .u64 p0, .int .u64 p1, .int .u64 p2, .int .u64 p3, .int .u64 p4]) ∧ Below w.heap.size w w')
    (hs : (ng == nl) = false)
    (k4 : ∀ w, Calls Tryz.prog 87 #[.agg #[.int .u64 a0, .int .u64 a1, .int .u64 a2, .int .u64 a3, .int .u64 a4], .agg #[.int .u64 y0, .int .u64 y1, .int .u64 y2, .int .u64 y3, .int .u64 y4]] w fun e w' => e = .returned (.agg #[.int .u64 m0, .int .u64 m1, .int .u64 m2, .int .u64 m3, .int .u64 m4]) ∧ Below w.heap.size w w')
    (h0 : (decide ((m0 : Int) = 0) && decide ((m1 : Int) = 0) && decide ((m2 : Int) = 0) && decide ((m3 : Int) = 0) && decide ((m4 : Int) = 0)) = false)
    (k5 : ∀ w, Calls Tryz.prog 88 #[.agg #[.int .u64 m0, .int .u64 m1, .int .u64 m2, .int .u64 m3, .int .u64 m4]] w fun e w' => e = .returned (.tuple #[.agg #[.int .u64 r0, .int .u64 r1, .int .u64 r2, .int .u64 r3, .int .u64 r4], .int .i64 k]) ∧ Below w.heap.size w w')
    (q4 : IntKind.i64.wrap (sg + 1) = uu) (q5 : IntKind.i64.wrap (uu - (k : Int)) = vv) (q8 : IntKind.i64.wrap (vv - 127) = sc) (q6 : bits BinOp.or IntKind.u64 (r2 : Int) (r1 : Int) = (o : Int)) (q9 : bits BinOp.or IntKind.u64 (o : Int) (r0 : Int) = (o2 : Int)) (q7 : ((o2 : Int) != 0) = t)
    (k6 : ∀ w, Calls Tryz.prog 56 #[.bool ng, .int .u64 r4, .int .u64 r3, .int .i64 sc, .bool t] w fun e w' => e = .returned (.tuple #[exV K B S H L T, .nilIface]) ∧ Below w.heap.size w w') (w : World) :
    Calls Tryz.prog 60 #[exV 1 nl sl hl ll false, exV 1 ng sg hg lg false] w fun e w' => e = .returned (.tuple #[exV K B S H L T, .nilIface]) ∧ Below w.heap.size w w' := by
  have dg := fdigits_any 1 ng sg hg lg false
  have dl := fdigits_any 1 nl sl hl ll false
  unfold exV at *
  have heq := eql5_words m0 m1 m2 m3 m4
  rw [h0] at heq
  have v0 : IntKind.i64.wrap 0 = 0 := rfl
  have v1 : IntKind.i64.wrap 1 = 1 := rfl
  have v2 : IntKind.i64.wrap 2 = 2 := rfl
  have v3 : IntKind.i64.wrap 3 = 3 := rfl
  have v4 : IntKind.i64.wrap 4 = 4 := rfl
  refine cps fun Q hQ => ?_
  go_enter Tryz.func60, Tryz.ntmps60
  go_upto_region 3 with (go_at_call 83; go_must (refine (k0 _).mono ?_); rintro e wa ⟨rfl, hb1⟩; have RA_0 := (hb1.block (w.heap.size) (by first | (simp; done) | (simp; omega) | omega)).trans ((Below.heap_alloc _ _ _ (by first | (simp; done) | (simp; omega) | omega)).trans ((Below.heap_alloc _ _ _ (by first | (simp; done) | (simp; omega) | omega)).trans (rownew' _ _ _ _ (by simp)))); have za_0 : w.heap.size < wa.heap.size := Nat.lt_of_lt_of_le (by first | (simp; done) | (simp; omega) | omega) hb1.size; have ca_0_0 := rowcell RA_0 0; have ca_0_1 := rowcell RA_0 1; have ca_0_2 := rowcell RA_0 2; have ca_0_3 := rowcell RA_0 3; have ca_0_4 := rowcell RA_0 4; have ca_0_5 := rowcell RA_0 5; simp only [List.getElem?_toArray, List.getElem?_cons_zero, List.getElem?_cons_succ] at ca_0_0 ca_0_1 ca_0_2 ca_0_3 ca_0_4 ca_0_5; have HA1_0 : Hid _ := RA_0; clear RA_0; have RA_1 := (hb1.block (w.heap.size + 1) (by first | (simp; done) | (simp; omega) | omega)).trans ((Below.heap_alloc _ _ _ (by first | (simp; done) | (simp; omega) | omega)).trans (rownew' _ _ _ _ (by simp))); have za_1 : w.heap.size + 1 < wa.heap.size := Nat.lt_of_lt_of_le (by first | (simp; done) | (simp; omega) | omega) hb1.size; have ca_1_0 := rowcell RA_1 0; have ca_1_1 := rowcell RA_1 1; have ca_1_2 := rowcell RA_1 2; have ca_1_3 := rowcell RA_1 3; have ca_1_4 := rowcell RA_1 4; have ca_1_5 := rowcell RA_1 5; simp only [List.getElem?_toArray, List.getElem?_cons_zero, List.getElem?_cons_succ] at ca_1_0 ca_1_1 ca_1_2 ca_1_3 ca_1_4 ca_1_5; have HA1_1 : Hid _ := RA_1; clear RA_1; have RA_2 := (hb1.block (w.heap.size + 1 + 1) (by first | (simp; done) | (simp; omega) | omega)).trans (rownew' _ _ _ _ (by simp)); have za_2 : w.heap.size + 1 + 1 < wa.heap.size := Nat.lt_of_lt_of_le (by first | (simp; done) | (simp; omega) | omega) hb1.size; have HA1_2 : Hid _ := RA_2; clear RA_2; have HA1 : Hid (Below _ _ _) := hb1; clear hb1; have fr0 := rowfree HA1_0.out; have fr1 := rowfree HA1_1.out; have fr2 := rowfree HA1_2.out)
  generalize hw1 : World.setCell _ _ _ = w1
  have HR1_0 : Hid (w1.heap[w.heap.size]? = some (.cells #[.int .i64 1, .bool ng, .int .i64 sg, .int .u64 hg, .int .u64 lg, .bool false] 59 (0, 0))) := by show _ = _; rw [← hw1]; exact rowE6_other (rowE6 HA1_0.out) (by omega)
  have HR1_1 : Hid (w1.heap[w.heap.size + 1]? = some (.cells #[.int .i64 1, .bool nl, .int .i64 sl, .int .u64 hl, .int .u64 ll, .bool false] 59 (0, 0))) := by show _ = _; rw [← hw1]; exact rowE6 (rowE6_other HA1_1.out (by omega))
  have HR1_2 : Hid (w1.heap[w.heap.size + 1 + 1]? = some (.cells #[.int .i64 0, .bool false, .int .i64 0, .int .u64 0, .int .u64 0, .bool false] 59 (0, 0))) := by show _ = _; rw [← hw1]; exact rowE6_other (rowE6_other HA1_2.out (by omega)) (by omega)
  have HBW : Hid (Below w.heap.size w w1) := by show Below _ _ _; rw [← hw1]; exact cset6 (cset6 (cthen (cmore (cmore (cmore (Below.refl _ _) _) _) _) HA1.out) (Nat.le_refl _)) (by omega)
  clear ca_0_0 ca_0_1 ca_0_2 ca_0_3 ca_0_4 ca_0_5 ca_1_0 ca_1_1 ca_1_2 ca_1_3 ca_1_4 ca_1_5 fr0 fr1 fr2 hw1 za_0 za_1 za_2
  have z1_0 : w.heap.size < w1.heap.size := rowlt HR1_0.out
  have z1_1 : w.heap.size + 1 < w1.heap.size := rowlt HR1_1.out
  have z1_2 : w.heap.size + 1 + 1 < w1.heap.size := rowlt HR1_2.out
  have x0_ := rowcell HR1_0.out 0
  have x1_ := rowcell HR1_0.out 1
  have x2_ := rowcell HR1_0.out 2
  have x3_ := rowcell HR1_0.out 3
  have x4_ := rowcell HR1_0.out 4
  have x5_ := rowcell HR1_0.out 5
  simp only [List.getElem?_toArray, List.getElem?_cons_zero, List.getElem?_cons_succ] at x0_ x1_ x2_ x3_ x4_ x5_
  go_upto_region 4 with (first
    | (go_at_call 84; have chk := HB2; go_must (refine (k1 _).mono ?_); rintro e w3 ⟨rfl, hb3⟩; have R3_0 := (hb3.block (w.heap.size) (by first | (simp; done) | (simp; omega) | omega)).trans HR2_0.out; have z3_0 : w.heap.size < w3.heap.size := Nat.lt_of_lt_of_le (by first | (simp; done) | (simp; omega) | omega) hb3.size; have HR3_0 : Hid _ := R3_0; clear R3_0; have R3_1 := (hb3.block (w.heap.size + 1) (by first | (simp; done) | (simp; omega) | omega)).trans HR2_1.out; have z3_1 : w.heap.size + 1 < w3.heap.size := Nat.lt_of_lt_of_le (by first | (simp; done) | (simp; omega) | omega) hb3.size; have HR3_1 : Hid _ := R3_1; clear R3_1; have R3_2 := (hb3.block (w.heap.size + 1 + 1) (by first | (simp; done) | (simp; omega) | omega)).trans HR2_2.out; have z3_2 : w.heap.size + 1 + 1 < w3.heap.size := Nat.lt_of_lt_of_le (by first | (simp; done) | (simp; omega) | omega) hb3.size; have HR3_2 : Hid _ := R3_2; clear R3_2; have HB3 : Hid (Below _ _ _) := hb3; clear hb3)
    | (go_at_call 85; go_must (refine (dg _).mono ?_); rintro e w2 ⟨rfl, hb2⟩; have R2_0 := (hb2.block (w.heap.size) (by first | (simp; done) | (simp; omega) | omega)).trans HR1_0.out; have z2_0 : w.heap.size < w2.heap.size := Nat.lt_of_lt_of_le (by first | (simp; done) | (simp; omega) | omega) hb2.size; have HR2_0 : Hid _ := R2_0; clear R2_0; have R2_1 := (hb2.block (w.heap.size + 1) (by first | (simp; done) | (simp; omega) | omega)).trans HR1_1.out; have z2_1 : w.heap.size + 1 < w2.heap.size := Nat.lt_of_lt_of_le (by first | (simp; done) | (simp; omega) | omega) hb2.size; have HR2_1 : Hid _ := R2_1; clear R2_1; have R2_2 := (hb2.block (w.heap.size + 1 + 1) (by first | (simp; done) | (simp; omega) | omega)).trans HR1_2.out; have z2_2 : w.heap.size + 1 + 1 < w2.heap.size := Nat.lt_of_lt_of_le (by first | (simp; done) | (simp; omega) | omega) hb2.size; have HR2_2 : Hid _ := R2_2; clear R2_2; have HB2 : Hid (Below _ _ _) := hb2; clear hb2))
  clear x0_ x1_ x2_ x3_ x4_ x5_
  generalize hw4 : World.alloc w3 _ = w4
  have HR4_0 := (show Hid _ from (by rw [← hw4]; exact (Below.heap_alloc _ _ _ (by omega)).trans HR3_0.out : w4.heap[w.heap.size]? = some (.cells #[.int .i64 1, .bool ng, .int .i64 sg, .int .u64 hg, .int .u64 lg, .bool false] 59 (0, 0))))
  have HR4_1 := (show Hid _ from (by rw [← hw4]; exact (Below.heap_alloc _ _ _ (by omega)).trans HR3_1.out : w4.heap[w.heap.size + 1]? = some (.cells #[.int .i64 1, .bool nl, .int .i64 sl, .int .u64 hl, .int .u64 ll, .bool false] 59 (0, 0))))
  have HR4_2 := (show Hid _ from (by rw [← hw4]; exact (Below.heap_alloc _ _ _ (by omega)).trans HR3_2.out : w4.heap[w.heap.size + 1 + 1]? = some (.cells #[.int .i64 0, .bool false, .int .i64 0, .int .u64 0, .int .u64 0, .bool false] 59 (0, 0))))
  have HR4_3 := (show Hid _ from (by rw [← hw4]; exact rownew _ _ _ : w4.heap[w3.heap.size]? = some (.cells #[.int .u64 a0, .int .u64 a1, .int .u64 a2, .int .u64 a3, .int .u64 a4] 134 (0, 0))))
  have HBX : Hid (Below w.heap.size w w4) := by show Below _ _ _; rw [← hw4]; exact cmore (cthen (cthen (HBW.out) HB2.out) HB3.out) _
  clear hw4
  have y4_0 : w.heap.size < w4.heap.size := rowlt HR4_0.out
  have y4_1 : w.heap.size + 1 < w4.heap.size := rowlt HR4_1.out
  have y4_2 : w.heap.size + 1 + 1 < w4.heap.size := rowlt HR4_2.out
  have y4_3 : w3.heap.size < w4.heap.size := rowlt HR4_3.out
  have cls : ∀ V, Below w4.heap.size w4 V → V.cell? ⟨w.heap.size, 2, none⟩ = some (.int .i64 sg) ∧ V.cell? ⟨w.heap.size + 1, 0, none⟩ = some (.int .i64 1) ∧ V.cell? ⟨w.heap.size + 1, 1, none⟩ = some (.bool nl) ∧ V.cell? ⟨w.heap.size + 1, 2, none⟩ = some (.int .i64 sl) ∧ V.cell? ⟨w.heap.size + 1, 3, none⟩ = some (.int .u64 hl) ∧ V.cell? ⟨w.heap.size + 1, 4, none⟩ = some (.int .u64 ll) ∧ V.cell? ⟨w.heap.size + 1, 5, none⟩ = some (.bool false) := fun V hV => by
    have q0 := (hV.block (w.heap.size) y4_0).trans HR4_0.out
    have q1 := (hV.block (w.heap.size + 1) y4_1).trans HR4_1.out
    exact ⟨rowcell q0 2, rowcell q1 0, rowcell q1 1, rowcell q1 2, rowcell q1 3, rowcell q1 4, rowcell q1 5⟩
  have B4 : Below w4.heap.size w4 w4 := Below.refl _ _
  go_cut [7] from 19 (fun s7 wx => ∃ n : Nat, s7 = .pointer (some ⟨n, 0, none⟩) ∧ Hid (Below w4.heap.size w4 wx) ∧ w4.heap.size ≤ n ∧ Hid (wx.heap[n]? = some (.cells #[.int .u64 y0, .int .u64 y1, .int .u64 y2, .int .u64 y3, .int .u64 y4] 134 (0, 0))))
  case first =>
    refine wpC_region (fun V => V.cell? ⟨w.heap.size, 2, none⟩ = some (.int .i64 sg) ∧ V.cell? ⟨w.heap.size + 1, 0, none⟩ = some (.int .i64 1) ∧ V.cell? ⟨w.heap.size + 1, 1, none⟩ = some (.bool nl) ∧ V.cell? ⟨w.heap.size + 1, 2, none⟩ = some (.int .i64 sl) ∧ V.cell? ⟨w.heap.size + 1, 3, none⟩ = some (.int .u64 hl) ∧ V.cell? ⟨w.heap.size + 1, 4, none⟩ = some (.int .u64 ll) ∧ V.cell? ⟨w.heap.size + 1, 5, none⟩ = some (.bool false)) (by kernel_rfl) ?_
    refine wpC_take 0 (v := ?_) rfl (by kernel_rfl) (fun _ _ _ h => h) (by kernel_rfl) ?_ ?_; rotate_left; · (intro wC hC; obtain ⟨d0, d1, d2, d3, d4, d5, d6⟩ := hC; go_simp <;> with_reducible rfl)
    refine wpC_take 2 (v := ?_) rfl (by kernel_rfl) (fun _ _ _ h => h) (by kernel_rfl) ?_ ?_; rotate_left; · (intro wC hC; obtain ⟨d0, d1, d2, d3, d4, d5, d6⟩ := hC; go_simp <;> with_reducible rfl)
    refine wpC_take 3 (v := ?_) rfl (by kernel_rfl) (fun _ _ _ h => h) (by kernel_rfl) ?_ ?_; rotate_left; · (intro wC hC; obtain ⟨d0, d1, d2, d3, d4, d5, d6⟩ := hC; go_simp <;> with_reducible rfl)
    refine wpC_take 4 (v := ?_) rfl (by kernel_rfl) (fun _ _ _ h => h) (by kernel_rfl) ?_ ?_; rotate_left; · (intro wC hC; obtain ⟨d0, d1, d2, d3, d4, d5, d6⟩ := hC; go_simp <;> with_reducible rfl)
    refine wpC_take 5 (v := ?_) rfl (by kernel_rfl) (fun _ _ _ h => h) (by kernel_rfl) ?_ ?_; rotate_left; · (intro wC hC; obtain ⟨d0, d1, d2, d3, d4, d5, d6⟩ := hC; go_simp <;> with_reducible rfl)
    refine wpC_take 6 (v := ?_) rfl (by kernel_rfl) (fun _ _ _ h => h) (by kernel_rfl) ?_ ?_; rotate_left; · (intro wC hC; obtain ⟨d0, d1, d2, d3, d4, d5, d6⟩ := hC; go_simp <;> with_reducible rfl)
    refine wpC_take 7 (v := ?_) rfl (by kernel_rfl) (fun _ _ _ h => h) (by kernel_rfl) ?_ ?_; rotate_left; · (intro wC hC; obtain ⟨d0, d1, d2, d3, d4, d5, d6⟩ := hC; go_simp <;> with_reducible rfl)
    refine wpC_take 8 (v := ?_) rfl (by kernel_rfl) (fun _ _ _ h => h) (by kernel_rfl) ?_ ?_; rotate_left; · (intro wC hC; obtain ⟨d0, d1, d2, d3, d4, d5, d6⟩ := hC; go_simp <;> with_reducible rfl)
    refine wpC_two 1 10 rfl rfl (by kernel_rfl) (by kernel_rfl) (by kernel_rfl) (cls _ (bdrew B4)) (fun K hK => ?_) (fun K hK => ?_)
    · skip
      go_simp
      go_wp2_with ((go_at_call 85; refine (dl _).mono ?_; rintro e w5 ⟨rfl, hb5⟩; have B5 := bthen (bdrew B4) hb5))
      try (refine hK _ _ ?_; clear hK K)
      refine wpC_two 9 10 rfl rfl (by kernel_rfl) (by kernel_rfl) (by kernel_rfl) (cls _ B5) (fun K hK => ?_) (fun K hK => ?_)
      · skip
        go_simp
        go_wp2_with ((go_at_call 84; refine (k2 _).mono ?_; rintro e w6 ⟨rfl, hb6⟩; have B6 := bthen (B5) hb6))
        try (refine hK _ _ ?_; clear hK K)
        refine wpC_step 10 rfl (by kernel_rfl) (by kernel_rfl) (cls _ B6) (fun K hK => ?_)
        go_simp
        try (refine hK _ _ ?_; clear hK K)
        refine wpC_step 11 rfl (by kernel_rfl) (by kernel_rfl) (cls _ (bmore B6 _)) (fun K hK => ?_)
        go_simp
        try (refine hK _ _ ?_; clear hK K)
        refine wpC_done (by kernel_rfl) (cls _ (bmore B6 _)) ?_
        go_wp2_with fail
        go_meet
        case rel => exact ⟨_, rfl, bmore B6 _, B6.size, rownew _ _ _⟩
      · skip
        go_simp
        try (refine hK _ _ ?_; clear hK K)
        refine wpC_step 9 rfl (by kernel_rfl) (by kernel_rfl) (cls _ (bmore B5 _)) (fun K hK => ?_)
        go_simp
        go_wp2_with ((go_at_call 84; refine (k2 _).mono ?_; rintro e w6 ⟨rfl, hb6⟩; have B6 := bthen (bmore B5 _) hb6; have R6 := (hb6.block (w5.heap.size) (by simp)).trans (rownew _ _ _); have rf := rowfree R6; have rl := rowlt R6; have rc0 := rowcell R6 0; have rc1 := rowcell R6 1; have rc2 := rowcell R6 2; have rc3 := rowcell R6 3; have rc4 := rowcell R6 4; simp only [List.getElem?_toArray, List.getElem?_cons_zero, List.getElem?_cons_succ] at rc0 rc1 rc2 rc3 rc4))
        try (refine hK _ _ ?_; clear hK K)
        have y5 := B5.size
        refine wpC_step 11 rfl (by kernel_rfl) (by kernel_rfl) (cls _ B6) (fun K hK => ?_)
        go_simp
        try (refine hK _ _ ?_; clear hK K)
        refine wpC_done (by kernel_rfl) (cls _ (cset5 B6 y5)) ?_
        go_wp2_with fail
        go_meet
        case rel => exact ⟨_, rfl, cset5 B6 y5, y5, row5 R6⟩
    · skip
      go_simp
      try (refine hK _ _ ?_; clear hK K)
      refine wpC_step 1 rfl (by kernel_rfl) (by kernel_rfl) (cls _ (bmore (bdrew B4) _)) (fun K hK => ?_)
      go_simp
      go_wp2_with ((go_at_call 85; refine (dl _).mono ?_; rintro e w5 ⟨rfl, hb5⟩; have B5 := bthen (bmore (bdrew B4) _) hb5; have R5 := (hb5.block (w4.heap.size) (by simp)).trans (rownew _ _ _); have y5 := rowlt R5))
      try (refine hK _ _ ?_; clear hK K)
      refine wpC_step 9 rfl (by kernel_rfl) (by kernel_rfl) (cls _ B5) (fun K hK => ?_)
      go_simp
      go_wp2_with ((go_at_call 84; refine (k2 _).mono ?_; rintro e w6 ⟨rfl, hb6⟩; have B6 := bthen (B5) hb6; have R6 := (hb6.block (w4.heap.size) y5).trans (R5); have rf := rowfree R6; have rl := rowlt R6; have rc0 := rowcell R6 0; have rc1 := rowcell R6 1; have rc2 := rowcell R6 2; have rc3 := rowcell R6 3; have rc4 := rowcell R6 4; simp only [List.getElem?_toArray, List.getElem?_cons_zero, List.getElem?_cons_succ] at rc0 rc1 rc2 rc3 rc4))
      try (refine hK _ _ ?_; clear hK K)
      refine wpC_step 11 rfl (by kernel_rfl) (by kernel_rfl) (cls _ B6) (fun K hK => ?_)
      go_simp
      try (refine hK _ _ ?_; clear hK K)
      refine wpC_done (by kernel_rfl) (cls _ (cset5 B6 (Nat.le_refl _))) ?_
      go_wp2_with fail
      go_meet
      case rel => exact ⟨_, rfl, cset5 B6 (Nat.le_refl _), Nat.le_refl _, row5 R6⟩
  case rest =>
    obtain ⟨n, rfl, hbx, hn, hrx⟩ := hcut
    have HB4 : Hid (Below w4.heap.size w4 wc) := hbx.out
    have HR5_0 := (show Hid _ from (hbx.out.block (w.heap.size) y4_0).trans HR4_0.out)
    have HR5_1 := (show Hid _ from (hbx.out.block (w.heap.size + 1) y4_1).trans HR4_1.out)
    have HR5_2 := (show Hid _ from (hbx.out.block (w.heap.size + 1 + 1) y4_2).trans HR4_2.out)
    have HR5_3 := (show Hid _ from (hbx.out.block (w3.heap.size) y4_3).trans HR4_3.out)
    have HR5_4 := hrx
    have z5_0 : w.heap.size < wc.heap.size := rowlt HR5_0.out
    have z5_1 : w.heap.size + 1 < wc.heap.size := rowlt HR5_1.out
    have z5_2 : w.heap.size + 1 + 1 < wc.heap.size := rowlt HR5_2.out
    have z5_3 : w3.heap.size < wc.heap.size := rowlt HR5_3.out
    have z5_4 : n < wc.heap.size := rowlt HR5_4.out
    have y5_3 : w.heap.size + 1 + 1 < w3.heap.size := by omega
    have HBY : Hid (Below w.heap.size w wc) := cthen HBX.out HB4.out
    clear hbx hrx cls B4 HBX HB4
    have k3_0 := rowcell HR5_3.out 0
    have k3_1 := rowcell HR5_3.out 1
    have k3_2 := rowcell HR5_3.out 2
    have k3_3 := rowcell HR5_3.out 3
    have k3_4 := rowcell HR5_3.out 4
    have k4_0 := rowcell HR5_4.out 0
    have k4_1 := rowcell HR5_4.out 1
    have k4_2 := rowcell HR5_4.out 2
    have k4_3 := rowcell HR5_4.out 3
    have k4_4 := rowcell HR5_4.out 4
    have k0_1 := rowcell HR5_0.out 1
    have k1_1 := rowcell HR5_1.out 1
    simp only [List.getElem?_toArray, List.getElem?_cons_zero, List.getElem?_cons_succ] at k0_1 k1_1 k3_0 k3_1 k3_2 k3_3 k3_4 k4_0 k4_1 k4_2 k4_3 k4_4
    go_wp2_with (first
      | (go_at_call 86; go_must (refine (k3 _).mono ?_); rintro e w6 ⟨rfl, hb6⟩; have R6_0 := (hb6.block (w.heap.size) (by first | (simp; done) | (simp; omega) | omega)).trans HR5_0.out; have z6_0 : w.heap.size < w6.heap.size := Nat.lt_of_lt_of_le (by first | (simp; done) | (simp; omega) | omega) hb6.size; have c6_0_1 := rowcell R6_0 1; simp only [List.getElem?_toArray, List.getElem?_cons_zero, List.getElem?_cons_succ] at c6_0_1; have HR6_0 : Hid _ := R6_0; clear R6_0; have R6_1 := (hb6.block (w.heap.size + 1) (by first | (simp; done) | (simp; omega) | omega)).trans HR5_1.out; have z6_1 : w.heap.size + 1 < w6.heap.size := Nat.lt_of_lt_of_le (by first | (simp; done) | (simp; omega) | omega) hb6.size; have c6_1_1 := rowcell R6_1 1; simp only [List.getElem?_toArray, List.getElem?_cons_zero, List.getElem?_cons_succ] at c6_1_1; have HR6_1 : Hid _ := R6_1; clear R6_1; have R6_2 := (hb6.block (w.heap.size + 1 + 1) (by first | (simp; done) | (simp; omega) | omega)).trans HR5_2.out; have z6_2 : w.heap.size + 1 + 1 < w6.heap.size := Nat.lt_of_lt_of_le (by first | (simp; done) | (simp; omega) | omega) hb6.size; have HR6_2 : Hid _ := R6_2; clear R6_2; have R6_3 := (hb6.block (w3.heap.size) (by first | (simp; done) | (simp; omega) | omega)).trans HR5_3.out; have z6_3 : w3.heap.size < w6.heap.size := Nat.lt_of_lt_of_le (by first | (simp; done) | (simp; omega) | omega) hb6.size; have c6_3_0 := rowcell R6_3 0; have c6_3_1 := rowcell R6_3 1; have c6_3_2 := rowcell R6_3 2; have c6_3_3 := rowcell R6_3 3; have c6_3_4 := rowcell R6_3 4; simp only [List.getElem?_toArray, List.getElem?_cons_zero, List.getElem?_cons_succ] at c6_3_0 c6_3_1 c6_3_2 c6_3_3 c6_3_4; have HR6_3 : Hid _ := R6_3; clear R6_3; have R6_4 := (hb6.block (n) (by first | (simp; done) | (simp; omega) | omega)).trans HR5_4.out; have z6_4 : n < w6.heap.size := Nat.lt_of_lt_of_le (by first | (simp; done) | (simp; omega) | omega) hb6.size; have c6_4_0 := rowcell R6_4 0; have c6_4_1 := rowcell R6_4 1; have c6_4_2 := rowcell R6_4 2; have c6_4_3 := rowcell R6_4 3; have c6_4_4 := rowcell R6_4 4; simp only [List.getElem?_toArray, List.getElem?_cons_zero, List.getElem?_cons_succ] at c6_4_0 c6_4_1 c6_4_2 c6_4_3 c6_4_4; have HR6_4 : Hid _ := R6_4; clear R6_4; have HB6 : Hid (Below _ _ _) := hb6; clear hb6)
      | (go_at_call 87; go_must (refine (k4 _).mono ?_); rintro e w7 ⟨rfl, hb7⟩; have R7_0 := (hb7.block (w.heap.size) (by first | (simp; done) | (simp; omega) | omega)).trans ((Below.heap_alloc _ _ _ (by first | (simp; done) | (simp; omega) | omega)).trans HR6_0.out); have z7_0 : w.heap.size < w7.heap.size := Nat.lt_of_lt_of_le (by first | (simp; done) | (simp; omega) | omega) hb7.size; have HR7_0 : Hid _ := R7_0; clear R7_0; have R7_1 := (hb7.block (w.heap.size + 1) (by first | (simp; done) | (simp; omega) | omega)).trans ((Below.heap_alloc _ _ _ (by first | (simp; done) | (simp; omega) | omega)).trans HR6_1.out); have z7_1 : w.heap.size + 1 < w7.heap.size := Nat.lt_of_lt_of_le (by first | (simp; done) | (simp; omega) | omega) hb7.size; have HR7_1 : Hid _ := R7_1; clear R7_1; have R7_2 := (hb7.block (w.heap.size + 1 + 1) (by first | (simp; done) | (simp; omega) | omega)).trans ((Below.heap_alloc _ _ _ (by first | (simp; done) | (simp; omega) | omega)).trans HR6_2.out); have z7_2 : w.heap.size + 1 + 1 < w7.heap.size := Nat.lt_of_lt_of_le (by first | (simp; done) | (simp; omega) | omega) hb7.size; have HR7_2 : Hid _ := R7_2; clear R7_2; have R7_3 := (hb7.block (w3.heap.size) (by first | (simp; done) | (simp; omega) | omega)).trans ((Below.heap_alloc _ _ _ (by first | (simp; done) | (simp; omega) | omega)).trans HR6_3.out); have z7_3 : w3.heap.size < w7.heap.size := Nat.lt_of_lt_of_le (by first | (simp; done) | (simp; omega) | omega) hb7.size; have HR7_3 : Hid _ := R7_3; clear R7_3; have R7_4 := (hb7.block (n) (by first | (simp; done) | (simp; omega) | omega)).trans ((Below.heap_alloc _ _ _ (by first | (simp; done) | (simp; omega) | omega)).trans HR6_4.out); have z7_4 : n < w7.heap.size := Nat.lt_of_lt_of_le (by first | (simp; done) | (simp; omega) | omega) hb7.size; have HR7_4 : Hid _ := R7_4; clear R7_4; have R7_5 := (hb7.block (w6.heap.size) (by first | (simp; done) | (simp; omega) | omega)).trans (rownew' _ _ _ _ (by simp)); have z7_5 : w6.heap.size < w7.heap.size := Nat.lt_of_lt_of_le (by first | (simp; done) | (simp; omega) | omega) hb7.size; have c7_5_0 := rowcell R7_5 0; have c7_5_1 := rowcell R7_5 1; have c7_5_2 := rowcell R7_5 2; have c7_5_3 := rowcell R7_5 3; have c7_5_4 := rowcell R7_5 4; simp only [List.getElem?_toArray, List.getElem?_cons_zero, List.getElem?_cons_succ] at c7_5_0 c7_5_1 c7_5_2 c7_5_3 c7_5_4; have HR7_5 : Hid _ := R7_5; clear R7_5; have HB7 : Hid (Below _ _ _) := hb7; clear hb7; have f5 := rowfree HR7_5.out; have f2 := rowfree HR7_2.out)
      | (go_at_call 88; go_must (refine (k5 _).mono ?_); rintro e w8 ⟨rfl, hb8⟩; have R8_0 := (hb8.block (w.heap.size) (by first | (simp; done) | (simp; omega) | omega)).trans (row5_other HR7_0.out (by omega)); have z8_0 : w.heap.size < w8.heap.size := Nat.lt_of_lt_of_le (by first | (simp; done) | (simp; omega) | omega) hb8.size; have c8_0_1 := rowcell R8_0 1; have c8_0_2 := rowcell R8_0 2; simp only [List.getElem?_toArray, List.getElem?_cons_zero, List.getElem?_cons_succ] at c8_0_1 c8_0_2; have HR8_0 : Hid _ := R8_0; clear R8_0; have R8_1 := (hb8.block (w.heap.size + 1) (by first | (simp; done) | (simp; omega) | omega)).trans (row5_other HR7_1.out (by omega)); have z8_1 : w.heap.size + 1 < w8.heap.size := Nat.lt_of_lt_of_le (by first | (simp; done) | (simp; omega) | omega) hb8.size; have HR8_1 : Hid _ := R8_1; clear R8_1; have R8_2 := (hb8.block (w.heap.size + 1 + 1) (by first | (simp; done) | (simp; omega) | omega)).trans (row5_other HR7_2.out (by omega)); have z8_2 : w.heap.size + 1 + 1 < w8.heap.size := Nat.lt_of_lt_of_le (by first | (simp; done) | (simp; omega) | omega) hb8.size; have HR8_2 : Hid _ := R8_2; clear R8_2; have R8_3 := (hb8.block (w3.heap.size) (by first | (simp; done) | (simp; omega) | omega)).trans (row5_other HR7_3.out (by omega)); have z8_3 : w3.heap.size < w8.heap.size := Nat.lt_of_lt_of_le (by first | (simp; done) | (simp; omega) | omega) hb8.size; have HR8_3 : Hid _ := R8_3; clear R8_3; have R8_4 := (hb8.block (n) (by first | (simp; done) | (simp; omega) | omega)).trans (row5_other HR7_4.out (by omega)); have z8_4 : n < w8.heap.size := Nat.lt_of_lt_of_le (by first | (simp; done) | (simp; omega) | omega) hb8.size; have HR8_4 : Hid _ := R8_4; clear R8_4; have R8_5 := (hb8.block (w6.heap.size) (by first | (simp; done) | (simp; omega) | omega)).trans (row5 HR7_5.out); have z8_5 : w6.heap.size < w8.heap.size := Nat.lt_of_lt_of_le (by first | (simp; done) | (simp; omega) | omega) hb8.size; have c8_5_0 := rowcell R8_5 0; have c8_5_1 := rowcell R8_5 1; have c8_5_2 := rowcell R8_5 2; have c8_5_3 := rowcell R8_5 3; have c8_5_4 := rowcell R8_5 4; simp only [List.getElem?_toArray, List.getElem?_cons_zero, List.getElem?_cons_succ] at c8_5_0 c8_5_1 c8_5_2 c8_5_3 c8_5_4; have HR8_5 : Hid _ := R8_5; clear R8_5; have HB8 : Hid (Below _ _ _) := hb8; clear hb8; have g5 := rowfree HR8_5.out; have g2 := rowfree HR8_2.out)
      | (go_at_call 56; go_must (refine (k6 _).mono ?_); rintro e w9 ⟨rfl, hb9⟩; have R9_0 := (hb9.block (w.heap.size) (by first | (simp; done) | (simp; omega) | omega)).trans (row5_other HR8_0.out (by omega)); have z9_0 : w.heap.size < w9.heap.size := Nat.lt_of_lt_of_le (by first | (simp; done) | (simp; omega) | omega) hb9.size; have HR9_0 : Hid _ := R9_0; clear R9_0; have R9_1 := (hb9.block (w.heap.size + 1) (by first | (simp; done) | (simp; omega) | omega)).trans (row5_other HR8_1.out (by omega)); have z9_1 : w.heap.size + 1 < w9.heap.size := Nat.lt_of_lt_of_le (by first | (simp; done) | (simp; omega) | omega) hb9.size; have HR9_1 : Hid _ := R9_1; clear R9_1; have R9_2 := (hb9.block (w.heap.size + 1 + 1) (by first | (simp; done) | (simp; omega) | omega)).trans (row5_other HR8_2.out (by omega)); have z9_2 : w.heap.size + 1 + 1 < w9.heap.size := Nat.lt_of_lt_of_le (by first | (simp; done) | (simp; omega) | omega) hb9.size; have c9_2_0 := rowcell R9_2 0; have c9_2_1 := rowcell R9_2 1; have c9_2_2 := rowcell R9_2 2; have c9_2_3 := rowcell R9_2 3; have c9_2_4 := rowcell R9_2 4; have c9_2_5 := rowcell R9_2 5; simp only [List.getElem?_toArray, List.getElem?_cons_zero, List.getElem?_cons_succ] at c9_2_0 c9_2_1 c9_2_2 c9_2_3 c9_2_4 c9_2_5; have HR9_2 : Hid _ := R9_2; clear R9_2; have R9_3 := (hb9.block (w3.heap.size) (by first | (simp; done) | (simp; omega) | omega)).trans (row5_other HR8_3.out (by omega)); have z9_3 : w3.heap.size < w9.heap.size := Nat.lt_of_lt_of_le (by first | (simp; done) | (simp; omega) | omega) hb9.size; have HR9_3 : Hid _ := R9_3; clear R9_3; have R9_4 := (hb9.block (n) (by first | (simp; done) | (simp; omega) | omega)).trans (row5_other HR8_4.out (by omega)); have z9_4 : n < w9.heap.size := Nat.lt_of_lt_of_le (by first | (simp; done) | (simp; omega) | omega) hb9.size; have HR9_4 : Hid _ := R9_4; clear R9_4; have R9_5 := (hb9.block (w6.heap.size) (by first | (simp; done) | (simp; omega) | omega)).trans (row5 HR8_5.out); have z9_5 : w6.heap.size < w9.heap.size := Nat.lt_of_lt_of_le (by first | (simp; done) | (simp; omega) | omega) hb9.size; have HR9_5 : Hid _ := R9_5; clear R9_5; have HB9 : Hid (Below _ _ _) := hb9; clear hb9; have m2 := rowfree HR9_2.out))
    refine bodyPost_ret (v := .tuple #[.agg #[.int .i64 K, .bool B, .int .i64 S, .int .u64 H, .int .u64 L, .bool T], .nilIface]) (by simp [results, Tryz.results60, go_sem, c9_2_0, c9_2_1, c9_2_2, c9_2_3, c9_2_4, c9_2_5, m2, z9_2]; done) rfl (hQ.out _ _ ⟨rfl, ?_⟩)
    exact cset6 (cthen (cset5 (cthen (cset5 (cthen (cmore (cthen (HBY.out) HB6.out) _) HB7.out) (by omega)) HB8.out) (by omega)) HB9.out) (by omega)
set_option maxHeartbeats 8000000 in
theorem freals_swap_zero (ng : Bool) (sg : Int) (hg lg : Nat) (nl : Bool) (sl : Int) (hl ll : Nat) (zz D E : Int) (kk : Nat) (a0 a1 a2 a3 a4 y0 y1 y2 y3 y4 p0 p1 p2 p3 p4 : Nat) (m0 m1 m2 m3 m4 : Nat)
    (k0 : ∀ w, Calls Tryz.prog 83 #[exV 1 nl sl hl ll false, exV 1 ng sg hg lg false] w fun e w' => e = .returned (.int .i64 zz) ∧ Below w.heap.size w w')
    (hz : decide (zz < 0) = true)
    (k1 : ∀ w, Calls Tryz.prog 84 #[.agg #[.int .u64 hg, .int .u64 lg], .int .i64 191] w fun e w' => e = .returned (.agg #[.int .u64 a0, .int .u64 a1, .int .u64 a2, .int .u64 a3, .int .u64 a4]) ∧ Below w.heap.size w w')
    (q1 : IntKind.i64.wrap (sg - sl) = D) (q2 : IntKind.i64.wrap (191 - D) = E) (q3 : (if E < 0 then 0 else E) = (kk : Int))
    (k2 : ∀ w, Calls Tryz.prog 84 #[.agg #[.int .u64 hl, .int .u64 ll], .int .i64 kk] w fun e w' => e = .returned (.agg #[.int .u64 y0, .int .u64 y1, .int .u64 y2, .int .u64 y3, .int .u64 y4]) ∧ Below w.heap.size w w')
    (k3 : ∀ w, Calls Tryz.prog 86 #[.agg #[.int .u64 a0, .int .u64 a1, .int .u64 a2, .int .u64 a3, .int .u64 a4], .agg #[.int .u64 y0, .int .u64 y1, .int .u64 y2, .int .u64 y3, .int .u64 y4]] w fun e w' => e = .returned (.agg #[.int .u64 p0, .int .u64 p1, .int .u64 p2, .int .u64 p3, .int .u64 p4]) ∧ Below w.heap.size w w')
    (hs : (ng == nl) = false)
    (k4 : ∀ w, Calls Tryz.prog 87 #[.agg #[.int .u64 a0, .int .u64 a1, .int .u64 a2, .int .u64 a3, .int .u64 a4], .agg #[.int .u64 y0, .int .u64 y1, .int .u64 y2, .int .u64 y3, .int .u64 y4]] w fun e w' => e = .returned (.agg #[.int .u64 m0, .int .u64 m1, .int .u64 m2, .int .u64 m3, .int .u64 m4]) ∧ Below w.heap.size w w')
    (h0 : (decide ((m0 : Int) = 0) && decide ((m1 : Int) = 0) && decide ((m2 : Int) = 0) && decide ((m3 : Int) = 0) && decide ((m4 : Int) = 0)) = true) (w : World) :
    Calls Tryz.prog 60 #[exV 1 nl sl hl ll false, exV 1 ng sg hg lg false] w fun e w' => e = .returned (.tuple #[exV 0 false 0 0 0 false, .nilIface]) ∧ Below w.heap.size w w' := by
  have dg := fdigits_any 1 ng sg hg lg false
  have dl := fdigits_any 1 nl sl hl ll false
  unfold exV at *
  rw [show ((0 : Nat) : Int) = 0 from rfl] at *
  have heq := eql5_words m0 m1 m2 m3 m4
  rw [h0] at heq
  have v0 : IntKind.i64.wrap 0 = 0 := rfl
  have v1 : IntKind.i64.wrap 1 = 1 := rfl
  have v2 : IntKind.i64.wrap 2 = 2 := rfl
  have v3 : IntKind.i64.wrap 3 = 3 := rfl
  have v4 : IntKind.i64.wrap 4 = 4 := rfl
  refine cps fun Q hQ => ?_
  go_enter Tryz.func60, Tryz.ntmps60
  go_upto_region 3 with (go_at_call 83; go_must (refine (k0 _).mono ?_); rintro e wa ⟨rfl, hb1⟩; have RA_0 := (hb1.block (w.heap.size) (by first | (simp; done) | (simp; omega) | omega)).trans ((Below.heap_alloc _ _ _ (by first | (simp; done) | (simp; omega) | omega)).trans ((Below.heap_alloc _ _ _ (by first | (simp; done) | (simp; omega) | omega)).trans (rownew' _ _ _ _ (by simp)))); have za_0 : w.heap.size < wa.heap.size := Nat.lt_of_lt_of_le (by first | (simp; done) | (simp; omega) | omega) hb1.size; have ca_0_0 := rowcell RA_0 0; have ca_0_1 := rowcell RA_0 1; have ca_0_2 := rowcell RA_0 2; have ca_0_3 := rowcell RA_0 3; have ca_0_4 := rowcell RA_0 4; have ca_0_5 := rowcell RA_0 5; simp only [List.getElem?_toArray, List.getElem?_cons_zero, List.getElem?_cons_succ] at ca_0_0 ca_0_1 ca_0_2 ca_0_3 ca_0_4 ca_0_5; have HA1_0 : Hid _ := RA_0; clear RA_0; have RA_1 := (hb1.block (w.heap.size + 1) (by first | (simp; done) | (simp; omega) | omega)).trans ((Below.heap_alloc _ _ _ (by first | (simp; done) | (simp; omega) | omega)).trans (rownew' _ _ _ _ (by simp))); have za_1 : w.heap.size + 1 < wa.heap.size := Nat.lt_of_lt_of_le (by first | (simp; done) | (simp; omega) | omega) hb1.size; have ca_1_0 := rowcell RA_1 0; have ca_1_1 := rowcell RA_1 1; have ca_1_2 := rowcell RA_1 2; have ca_1_3 := rowcell RA_1 3; have ca_1_4 := rowcell RA_1 4; have ca_1_5 := rowcell RA_1 5; simp only [List.getElem?_toArray, List.getElem?_cons_zero, List.getElem?_cons_succ] at ca_1_0 ca_1_1 ca_1_2 ca_1_3 ca_1_4 ca_1_5; have HA1_1 : Hid _ := RA_1; clear RA_1; have RA_2 := (hb1.block (w.heap.size + 1 + 1) (by first | (simp; done) | (simp; omega) | omega)).trans (rownew' _ _ _ _ (by simp)); have za_2 : w.heap.size + 1 + 1 < wa.heap.size := Nat.lt_of_lt_of_le (by first | (simp; done) | (simp; omega) | omega) hb1.size; have HA1_2 : Hid _ := RA_2; clear RA_2; have HA1 : Hid (Below _ _ _) := hb1; clear hb1; have fr0 := rowfree HA1_0.out; have fr1 := rowfree HA1_1.out; have fr2 := rowfree HA1_2.out)
  generalize hw1 : World.setCell _ _ _ = w1
  have HR1_0 : Hid (w1.heap[w.heap.size]? = some (.cells #[.int .i64 1, .bool ng, .int .i64 sg, .int .u64 hg, .int .u64 lg, .bool false] 59 (0, 0))) := by show _ = _; rw [← hw1]; exact rowE6_other (rowE6 HA1_0.out) (by omega)
  have HR1_1 : Hid (w1.heap[w.heap.size + 1]? = some (.cells #[.int .i64 1, .bool nl, .int .i64 sl, .int .u64 hl, .int .u64 ll, .bool false] 59 (0, 0))) := by show _ = _; rw [← hw1]; exact rowE6 (rowE6_other HA1_1.out (by omega))
  have HR1_2 : Hid (w1.heap[w.heap.size + 1 + 1]? = some (.cells #[.int .i64 0, .bool false, .int .i64 0, .int .u64 0, .int .u64 0, .bool false] 59 (0, 0))) := by show _ = _; rw [← hw1]; exact rowE6_other (rowE6_other HA1_2.out (by omega)) (by omega)
  have HBW : Hid (Below w.heap.size w w1) := by show Below _ _ _; rw [← hw1]; exact cset6 (cset6 (cthen (cmore (cmore (cmore (Below.refl _ _) _) _) _) HA1.out) (Nat.le_refl _)) (by omega)
  clear ca_0_0 ca_0_1 ca_0_2 ca_0_3 ca_0_4 ca_0_5 ca_1_0 ca_1_1 ca_1_2 ca_1_3 ca_1_4 ca_1_5 fr0 fr1 fr2 hw1 za_0 za_1 za_2
  have z1_0 : w.heap.size < w1.heap.size := rowlt HR1_0.out
  have z1_1 : w.heap.size + 1 < w1.heap.size := rowlt HR1_1.out
  have z1_2 : w.heap.size + 1 + 1 < w1.heap.size := rowlt HR1_2.out
  have x0_ := rowcell HR1_0.out 0
  have x1_ := rowcell HR1_0.out 1
  have x2_ := rowcell HR1_0.out 2
  have x3_ := rowcell HR1_0.out 3
  have x4_ := rowcell HR1_0.out 4
  have x5_ := rowcell HR1_0.out 5
  simp only [List.getElem?_toArray, List.getElem?_cons_zero, List.getElem?_cons_succ] at x0_ x1_ x2_ x3_ x4_ x5_
  go_upto_region 4 with (first
    | (go_at_call 84; have chk := HB2; go_must (refine (k1 _).mono ?_); rintro e w3 ⟨rfl, hb3⟩; have R3_0 := (hb3.block (w.heap.size) (by first | (simp; done) | (simp; omega) | omega)).trans HR2_0.out; have z3_0 : w.heap.size < w3.heap.size := Nat.lt_of_lt_of_le (by first | (simp; done) | (simp; omega) | omega) hb3.size; have HR3_0 : Hid _ := R3_0; clear R3_0; have R3_1 := (hb3.block (w.heap.size + 1) (by first | (simp; done) | (simp; omega) | omega)).trans HR2_1.out; have z3_1 : w.heap.size + 1 < w3.heap.size := Nat.lt_of_lt_of_le (by first | (simp; done) | (simp; omega) | omega) hb3.size; have HR3_1 : Hid _ := R3_1; clear R3_1; have R3_2 := (hb3.block (w.heap.size + 1 + 1) (by first | (simp; done) | (simp; omega) | omega)).trans HR2_2.out; have z3_2 : w.heap.size + 1 + 1 < w3.heap.size := Nat.lt_of_lt_of_le (by first | (simp; done) | (simp; omega) | omega) hb3.size; have HR3_2 : Hid _ := R3_2; clear R3_2; have HB3 : Hid (Below _ _ _) := hb3; clear hb3)
    | (go_at_call 85; go_must (refine (dg _).mono ?_); rintro e w2 ⟨rfl, hb2⟩; have R2_0 := (hb2.block (w.heap.size) (by first | (simp; done) | (simp; omega) | omega)).trans HR1_0.out; have z2_0 : w.heap.size < w2.heap.size := Nat.lt_of_lt_of_le (by first | (simp; done) | (simp; omega) | omega) hb2.size; have HR2_0 : Hid _ := R2_0; clear R2_0; have R2_1 := (hb2.block (w.heap.size + 1) (by first | (simp; done) | (simp; omega) | omega)).trans HR1_1.out; have z2_1 : w.heap.size + 1 < w2.heap.size := Nat.lt_of_lt_of_le (by first | (simp; done) | (simp; omega) | omega) hb2.size; have HR2_1 : Hid _ := R2_1; clear R2_1; have R2_2 := (hb2.block (w.heap.size + 1 + 1) (by first | (simp; done) | (simp; omega) | omega)).trans HR1_2.out; have z2_2 : w.heap.size + 1 + 1 < w2.heap.size := Nat.lt_of_lt_of_le (by first | (simp; done) | (simp; omega) | omega) hb2.size; have HR2_2 : Hid _ := R2_2; clear R2_2; have HB2 : Hid (Below _ _ _) := hb2; clear hb2))
  clear x0_ x1_ x2_ x3_ x4_ x5_
  generalize hw4 : World.alloc w3 _ = w4
  have HR4_0 := (show Hid _ from (by rw [← hw4]; exact (Below.heap_alloc _ _ _ (by omega)).trans HR3_0.out : w4.heap[w.heap.size]? = some (.cells #[.int .i64 1, .bool ng, .int .i64 sg, .int .u64 hg, .int .u64 lg, .bool false] 59 (0, 0))))
  have HR4_1 := (show Hid _ from (by rw [← hw4]; exact (Below.heap_alloc _ _ _ (by omega)).trans HR3_1.out : w4.heap[w.heap.size + 1]? = some (.cells #[.int .i64 1, .bool nl, .int .i64 sl, .int .u64 hl, .int .u64 ll, .bool false] 59 (0, 0))))
  have HR4_2 := (show Hid _ from (by rw [← hw4]; exact (Below.heap_alloc _ _ _ (by omega)).trans HR3_2.out : w4.heap[w.heap.size + 1 + 1]? = some (.cells #[.int .i64 0, .bool false, .int .i64 0, .int .u64 0, .int .u64 0, .bool false] 59 (0, 0))))
  have HR4_3 := (show Hid _ from (by rw [← hw4]; exact rownew _ _ _ : w4.heap[w3.heap.size]? = some (.cells #[.int .u64 a0, .int .u64 a1, .int .u64 a2, .int .u64 a3, .int .u64 a4] 134 (0, 0))))
  have HBX : Hid (Below w.heap.size w w4) := by show Below _ _ _; rw [← hw4]; exact cmore (cthen (cthen (HBW.out) HB2.out) HB3.out) _
  clear hw4
  have y4_0 : w.heap.size < w4.heap.size := rowlt HR4_0.out
  have y4_1 : w.heap.size + 1 < w4.heap.size := rowlt HR4_1.out
  have y4_2 : w.heap.size + 1 + 1 < w4.heap.size := rowlt HR4_2.out
  have y4_3 : w3.heap.size < w4.heap.size := rowlt HR4_3.out
  have cls : ∀ V, Below w4.heap.size w4 V → V.cell? ⟨w.heap.size, 2, none⟩ = some (.int .i64 sg) ∧ V.cell? ⟨w.heap.size + 1, 0, none⟩ = some (.int .i64 1) ∧ V.cell? ⟨w.heap.size + 1, 1, none⟩ = some (.bool nl) ∧ V.cell? ⟨w.heap.size + 1, 2, none⟩ = some (.int .i64 sl) ∧ V.cell? ⟨w.heap.size + 1, 3, none⟩ = some (.int .u64 hl) ∧ V.cell? ⟨w.heap.size + 1, 4, none⟩ = some (.int .u64 ll) ∧ V.cell? ⟨w.heap.size + 1, 5, none⟩ = some (.bool false) := fun V hV => by
    have q0 := (hV.block (w.heap.size) y4_0).trans HR4_0.out
    have q1 := (hV.block (w.heap.size + 1) y4_1).trans HR4_1.out
    exact ⟨rowcell q0 2, rowcell q1 0, rowcell q1 1, rowcell q1 2, rowcell q1 3, rowcell q1 4, rowcell q1 5⟩
  have B4 : Below w4.heap.size w4 w4 := Below.refl _ _
  go_cut [7] from 19 (fun s7 wx => ∃ n : Nat, s7 = .pointer (some ⟨n, 0, none⟩) ∧ Hid (Below w4.heap.size w4 wx) ∧ w4.heap.size ≤ n ∧ Hid (wx.heap[n]? = some (.cells #[.int .u64 y0, .int .u64 y1, .int .u64 y2, .int .u64 y3, .int .u64 y4] 134 (0, 0))))
  case first =>
    refine wpC_region (fun V => V.cell? ⟨w.heap.size, 2, none⟩ = some (.int .i64 sg) ∧ V.cell? ⟨w.heap.size + 1, 0, none⟩ = some (.int .i64 1) ∧ V.cell? ⟨w.heap.size + 1, 1, none⟩ = some (.bool nl) ∧ V.cell? ⟨w.heap.size + 1, 2, none⟩ = some (.int .i64 sl) ∧ V.cell? ⟨w.heap.size + 1, 3, none⟩ = some (.int .u64 hl) ∧ V.cell? ⟨w.heap.size + 1, 4, none⟩ = some (.int .u64 ll) ∧ V.cell? ⟨w.heap.size + 1, 5, none⟩ = some (.bool false)) (by kernel_rfl) ?_
    refine wpC_take 0 (v := ?_) rfl (by kernel_rfl) (fun _ _ _ h => h) (by kernel_rfl) ?_ ?_; rotate_left; · (intro wC hC; obtain ⟨d0, d1, d2, d3, d4, d5, d6⟩ := hC; go_simp <;> with_reducible rfl)
    refine wpC_take 2 (v := ?_) rfl (by kernel_rfl) (fun _ _ _ h => h) (by kernel_rfl) ?_ ?_; rotate_left; · (intro wC hC; obtain ⟨d0, d1, d2, d3, d4, d5, d6⟩ := hC; go_simp <;> with_reducible rfl)
    refine wpC_take 3 (v := ?_) rfl (by kernel_rfl) (fun _ _ _ h => h) (by kernel_rfl) ?_ ?_; rotate_left; · (intro wC hC; obtain ⟨d0, d1, d2, d3, d4, d5, d6⟩ := hC; go_simp <;> with_reducible rfl)
    refine wpC_take 4 (v := ?_) rfl (by kernel_rfl) (fun _ _ _ h => h) (by kernel_rfl) ?_ ?_; rotate_left; · (intro wC hC; obtain ⟨d0, d1, d2, d3, d4, d5, d6⟩ := hC; go_simp <;> with_reducible rfl)
    refine wpC_take 5 (v := ?_) rfl (by kernel_rfl) (fun _ _ _ h => h) (by kernel_rfl) ?_ ?_; rotate_left; · (intro wC hC; obtain ⟨d0, d1, d2, d3, d4, d5, d6⟩ := hC; go_simp <;> with_reducible rfl)
    refine wpC_take 6 (v := ?_) rfl (by kernel_rfl) (fun _ _ _ h => h) (by kernel_rfl) ?_ ?_; rotate_left; · (intro wC hC; obtain ⟨d0, d1, d2, d3, d4, d5, d6⟩ := hC; go_simp <;> with_reducible rfl)
    refine wpC_take 7 (v := ?_) rfl (by kernel_rfl) (fun _ _ _ h => h) (by kernel_rfl) ?_ ?_; rotate_left; · (intro wC hC; obtain ⟨d0, d1, d2, d3, d4, d5, d6⟩ := hC; go_simp <;> with_reducible rfl)
    refine wpC_take 8 (v := ?_) rfl (by kernel_rfl) (fun _ _ _ h => h) (by kernel_rfl) ?_ ?_; rotate_left; · (intro wC hC; obtain ⟨d0, d1, d2, d3, d4, d5, d6⟩ := hC; go_simp <;> with_reducible rfl)
    refine wpC_two 1 10 rfl rfl (by kernel_rfl) (by kernel_rfl) (by kernel_rfl) (cls _ (bdrew B4)) (fun K hK => ?_) (fun K hK => ?_)
    · skip
      go_simp
      go_wp2_with ((go_at_call 85; refine (dl _).mono ?_; rintro e w5 ⟨rfl, hb5⟩; have B5 := bthen (bdrew B4) hb5))
      try (refine hK _ _ ?_; clear hK K)
      refine wpC_two 9 10 rfl rfl (by kernel_rfl) (by kernel_rfl) (by kernel_rfl) (cls _ B5) (fun K hK => ?_) (fun K hK => ?_)
      · skip
        go_simp
        go_wp2_with ((go_at_call 84; refine (k2 _).mono ?_; rintro e w6 ⟨rfl, hb6⟩; have B6 := bthen (B5) hb6))
        try (refine hK _ _ ?_; clear hK K)
        refine wpC_step 10 rfl (by kernel_rfl) (by kernel_rfl) (cls _ B6) (fun K hK => ?_)
        go_simp
        try (refine hK _ _ ?_; clear hK K)
        refine wpC_step 11 rfl (by kernel_rfl) (by kernel_rfl) (cls _ (bmore B6 _)) (fun K hK => ?_)
        go_simp
        try (refine hK _ _ ?_; clear hK K)
        refine wpC_done (by kernel_rfl) (cls _ (bmore B6 _)) ?_
        go_wp2_with fail
        go_meet
        case rel => exact ⟨_, rfl, bmore B6 _, B6.size, rownew _ _ _⟩
      · skip
        go_simp
        try (refine hK _ _ ?_; clear hK K)
        refine wpC_step 9 rfl (by kernel_rfl) (by kernel_rfl) (cls _ (bmore B5 _)) (fun K hK => ?_)
        go_simp
        go_wp2_with ((go_at_call 84; refine (k2 _).mono ?_; rintro e w6 ⟨rfl, hb6⟩; have B6 := bthen (bmore B5 _) hb6; have R6 := (hb6.block (w5.heap.size) (by simp)).trans (rownew _ _ _); have rf := rowfree R6; have rl := rowlt R6; have rc0 := rowcell R6 0; have rc1 := rowcell R6 1; have rc2 := rowcell R6 2; have rc3 := rowcell R6 3; have rc4 := rowcell R6 4; simp only [List.getElem?_toArray, List.getElem?_cons_zero, List.getElem?_cons_succ] at rc0 rc1 rc2 rc3 rc4))
        try (refine hK _ _ ?_; clear hK K)
        have y5 := B5.size
        refine wpC_step 11 rfl (by kernel_rfl) (by kernel_rfl) (cls _ B6) (fun K hK => ?_)
        go_simp
        try (refine hK _ _ ?_; clear hK K)
        refine wpC_done (by kernel_rfl) (cls _ (cset5 B6 y5)) ?_
        go_wp2_with fail
        go_meet
        case rel => exact ⟨_, rfl, cset5 B6 y5, y5, row5 R6⟩
    · skip
      go_simp
      try (refine hK _ _ ?_; clear hK K)
      refine wpC_step 1 rfl (by kernel_rfl) (by kernel_rfl) (cls _ (bmore (bdrew B4) _)) (fun K hK => ?_)
      go_simp
      go_wp2_with ((go_at_call 85; refine (dl _).mono ?_; rintro e w5 ⟨rfl, hb5⟩; have B5 := bthen (bmore (bdrew B4) _) hb5; have R5 := (hb5.block (w4.heap.size) (by simp)).trans (rownew _ _ _); have y5 := rowlt R5))
      try (refine hK _ _ ?_; clear hK K)
      refine wpC_step 9 rfl (by kernel_rfl) (by kernel_rfl) (cls _ B5) (fun K hK => ?_)
      go_simp
      go_wp2_with ((go_at_call 84; refine (k2 _).mono ?_; rintro e w6 ⟨rfl, hb6⟩; have B6 := bthen (B5) hb6; have R6 := (hb6.block (w4.heap.size) y5).trans (R5); have rf := rowfree R6; have rl := rowlt R6; have rc0 := rowcell R6 0; have rc1 := rowcell R6 1; have rc2 := rowcell R6 2; have rc3 := rowcell R6 3; have rc4 := rowcell R6 4; simp only [List.getElem?_toArray, List.getElem?_cons_zero, List.getElem?_cons_succ] at rc0 rc1 rc2 rc3 rc4))
      try (refine hK _ _ ?_; clear hK K)
      refine wpC_step 11 rfl (by kernel_rfl) (by kernel_rfl) (cls _ B6) (fun K hK => ?_)
      go_simp
      try (refine hK _ _ ?_; clear hK K)
      refine wpC_done (by kernel_rfl) (cls _ (cset5 B6 (Nat.le_refl _))) ?_
      go_wp2_with fail
      go_meet
      case rel => exact ⟨_, rfl, cset5 B6 (Nat.le_refl _), Nat.le_refl _, row5 R6⟩
  case rest =>
    obtain ⟨n, rfl, hbx, hn, hrx⟩ := hcut
    have HB4 : Hid (Below w4.heap.size w4 wc) := hbx.out
    have HR5_0 := (show Hid _ from (hbx.out.block (w.heap.size) y4_0).trans HR4_0.out)
    have HR5_1 := (show Hid _ from (hbx.out.block (w.heap.size + 1) y4_1).trans HR4_1.out)
    have HR5_2 := (show Hid _ from (hbx.out.block (w.heap.size + 1 + 1) y4_2).trans HR4_2.out)
    have HR5_3 := (show Hid _ from (hbx.out.block (w3.heap.size) y4_3).trans HR4_3.out)
    have HR5_4 := hrx
    have z5_0 : w.heap.size < wc.heap.size := rowlt HR5_0.out
    have z5_1 : w.heap.size + 1 < wc.heap.size := rowlt HR5_1.out
    have z5_2 : w.heap.size + 1 + 1 < wc.heap.size := rowlt HR5_2.out
    have z5_3 : w3.heap.size < wc.heap.size := rowlt HR5_3.out
    have z5_4 : n < wc.heap.size := rowlt HR5_4.out
    have y5_3 : w.heap.size + 1 + 1 < w3.heap.size := by omega
    have HBY : Hid (Below w.heap.size w wc) := cthen HBX.out HB4.out
    clear hbx hrx cls B4 HBX HB4
    have k3_0 := rowcell HR5_3.out 0
    have k3_1 := rowcell HR5_3.out 1
    have k3_2 := rowcell HR5_3.out 2
    have k3_3 := rowcell HR5_3.out 3
    have k3_4 := rowcell HR5_3.out 4
    have k4_0 := rowcell HR5_4.out 0
    have k4_1 := rowcell HR5_4.out 1
    have k4_2 := rowcell HR5_4.out 2
    have k4_3 := rowcell HR5_4.out 3
    have k4_4 := rowcell HR5_4.out 4
    have k0_1 := rowcell HR5_0.out 1
    have k1_1 := rowcell HR5_1.out 1
    simp only [List.getElem?_toArray, List.getElem?_cons_zero, List.getElem?_cons_succ] at k0_1 k1_1 k3_0 k3_1 k3_2 k3_3 k3_4 k4_0 k4_1 k4_2 k4_3 k4_4
    go_wp2_with (first
      | (go_at_call 86; go_must (refine (k3 _).mono ?_); rintro e w6 ⟨rfl, hb6⟩; have R6_0 := (hb6.block (w.heap.size) (by first | (simp; done) | (simp; omega) | omega)).trans HR5_0.out; have z6_0 : w.heap.size < w6.heap.size := Nat.lt_of_lt_of_le (by first | (simp; done) | (simp; omega) | omega) hb6.size; have c6_0_1 := rowcell R6_0 1; simp only [List.getElem?_toArray, List.getElem?_cons_zero, List.getElem?_cons_succ] at c6_0_1; have HR6_0 : Hid _ := R6_0; clear R6_0; have R6_1 := (hb6.block (w.heap.size + 1) (by first | (simp; done) | (simp; omega) | omega)).trans HR5_1.out; have z6_1 : w.heap.size + 1 < w6.heap.size := Nat.lt_of_lt_of_le (by first | (simp; done) | (simp; omega) | omega) hb6.size; have c6_1_1 := rowcell R6_1 1; simp only [List.getElem?_toArray, List.getElem?_cons_zero, List.getElem?_cons_succ] at c6_1_1; have HR6_1 : Hid _ := R6_1; clear R6_1; have R6_2 := (hb6.block (w.heap.size + 1 + 1) (by first | (simp; done) | (simp; omega) | omega)).trans HR5_2.out; have z6_2 : w.heap.size + 1 + 1 < w6.heap.size := Nat.lt_of_lt_of_le (by first | (simp; done) | (simp; omega) | omega) hb6.size; have HR6_2 : Hid _ := R6_2; clear R6_2; have R6_3 := (hb6.block (w3.heap.size) (by first | (simp; done) | (simp; omega) | omega)).trans HR5_3.out; have z6_3 : w3.heap.size < w6.heap.size := Nat.lt_of_lt_of_le (by first | (simp; done) | (simp; omega) | omega) hb6.size; have c6_3_0 := rowcell R6_3 0; have c6_3_1 := rowcell R6_3 1; have c6_3_2 := rowcell R6_3 2; have c6_3_3 := rowcell R6_3 3; have c6_3_4 := rowcell R6_3 4; simp only [List.getElem?_toArray, List.getElem?_cons_zero, List.getElem?_cons_succ] at c6_3_0 c6_3_1 c6_3_2 c6_3_3 c6_3_4; have HR6_3 : Hid _ := R6_3; clear R6_3; have R6_4 := (hb6.block (n) (by first | (simp; done) | (simp; omega) | omega)).trans HR5_4.out; have z6_4 : n < w6.heap.size := Nat.lt_of_lt_of_le (by first | (simp; done) | (simp; omega) | omega) hb6.size; have c6_4_0 := rowcell R6_4 0; have c6_4_1 := rowcell R6_4 1; have c6_4_2 := rowcell R6_4 2; have c6_4_3 := rowcell R6_4 3; have c6_4_4 := rowcell R6_4 4; simp only [List.getElem?_toArray, List.getElem?_cons_zero, List.getElem?_cons_succ] at c6_4_0 c6_4_1 c6_4_2 c6_4_3 c6_4_4; have HR6_4 : Hid _ := R6_4; clear R6_4; have HB6 : Hid (Below _ _ _) := hb6; clear hb6)
      | (go_at_call 87; go_must (refine (k4 _).mono ?_); rintro e w7 ⟨rfl, hb7⟩; have R7_0 := (hb7.block (w.heap.size) (by first | (simp; done) | (simp; omega) | omega)).trans ((Below.heap_alloc _ _ _ (by first | (simp; done) | (simp; omega) | omega)).trans HR6_0.out); have z7_0 : w.heap.size < w7.heap.size := Nat.lt_of_lt_of_le (by first | (simp; done) | (simp; omega) | omega) hb7.size; have HR7_0 : Hid _ := R7_0; clear R7_0; have R7_1 := (hb7.block (w.heap.size + 1) (by first | (simp; done) | (simp; omega) | omega)).trans ((Below.heap_alloc _ _ _ (by first | (simp; done) | (simp; omega) | omega)).trans HR6_1.out); have z7_1 : w.heap.size + 1 < w7.heap.size := Nat.lt_of_lt_of_le (by first | (simp; done) | (simp; omega) | omega) hb7.size; have HR7_1 : Hid _ := R7_1; clear R7_1; have R7_2 := (hb7.block (w.heap.size + 1 + 1) (by first | (simp; done) | (simp; omega) | omega)).trans ((Below.heap_alloc _ _ _ (by first | (simp; done) | (simp; omega) | omega)).trans HR6_2.out); have z7_2 : w.heap.size + 1 + 1 < w7.heap.size := Nat.lt_of_lt_of_le (by first | (simp; done) | (simp; omega) | omega) hb7.size; have c7_2_0 := rowcell R7_2 0; have c7_2_1 := rowcell R7_2 1; have c7_2_2 := rowcell R7_2 2; have c7_2_3 := rowcell R7_2 3; have c7_2_4 := rowcell R7_2 4; have c7_2_5 := rowcell R7_2 5; simp only [List.getElem?_toArray, List.getElem?_cons_zero, List.getElem?_cons_succ] at c7_2_0 c7_2_1 c7_2_2 c7_2_3 c7_2_4 c7_2_5; have HR7_2 : Hid _ := R7_2; clear R7_2; have R7_3 := (hb7.block (w3.heap.size) (by first | (simp; done) | (simp; omega) | omega)).trans ((Below.heap_alloc _ _ _ (by first | (simp; done) | (simp; omega) | omega)).trans HR6_3.out); have z7_3 : w3.heap.size < w7.heap.size := Nat.lt_of_lt_of_le (by first | (simp; done) | (simp; omega) | omega) hb7.size; have HR7_3 : Hid _ := R7_3; clear R7_3; have R7_4 := (hb7.block (n) (by first | (simp; done) | (simp; omega) | omega)).trans ((Below.heap_alloc _ _ _ (by first | (simp; done) | (simp; omega) | omega)).trans HR6_4.out); have z7_4 : n < w7.heap.size := Nat.lt_of_lt_of_le (by first | (simp; done) | (simp; omega) | omega) hb7.size; have HR7_4 : Hid _ := R7_4; clear R7_4; have R7_5 := (hb7.block (w6.heap.size) (by first | (simp; done) | (simp; omega) | omega)).trans (rownew' _ _ _ _ (by simp)); have z7_5 : w6.heap.size < w7.heap.size := Nat.lt_of_lt_of_le (by first | (simp; done) | (simp; omega) | omega) hb7.size; have c7_5_0 := rowcell R7_5 0; have c7_5_1 := rowcell R7_5 1; have c7_5_2 := rowcell R7_5 2; have c7_5_3 := rowcell R7_5 3; have c7_5_4 := rowcell R7_5 4; simp only [List.getElem?_toArray, List.getElem?_cons_zero, List.getElem?_cons_succ] at c7_5_0 c7_5_1 c7_5_2 c7_5_3 c7_5_4; have HR7_5 : Hid _ := R7_5; clear R7_5; have HB7 : Hid (Below _ _ _) := hb7; clear hb7; have f5 := rowfree HR7_5.out; have f2 := rowfree HR7_2.out))
    refine bodyPost_ret (v := .tuple #[.agg #[.int .i64 0, .bool false, .int .i64 0, .int .u64 0, .int .u64 0, .bool false], .nilIface]) (by simp [results, Tryz.results60, go_sem, c7_2_0, c7_2_1, c7_2_2, c7_2_3, c7_2_4, c7_2_5, f2, z7_2]; done) rfl (hQ.out _ _ ⟨rfl, ?_⟩)
    exact cset6 (cset5 (cthen (cmore (cthen (HBY.out) HB6.out) _) HB7.out) (by omega)) (by omega)
end Go.Proofs.YtheliihkkoohnabGreat

namespace Go.Proofs.YtheliihkkoohnabGreat
open Go.ChangeShapes Go.WideShapes Go.ChangeAt Go.RowKit
set_option linter.unusedVariables false
set_option linter.unusedSimpArgs false
set_option maxRecDepth 100000

/-! ### the first 320 bits of a sum of two numbers of 128 digits are enough (plain mathematics) -/
/-- where the lesser term stands -/
def lowE (s s' : Int) : Nat := (191 - (s - s')).toNat
def sumE (same : Bool) (M M' k : Nat) : Nat := if same then M * 2 ^ 191 + M' * 2 ^ k else M * 2 ^ 191 - M' * 2 ^ k
theorem mant_le {M M' d : Nat} (hM : Mant M) (hM' : Mant M') (h : d = 0 → M' ≤ M) : M' ≤ M * 2 ^ d := by
  by_cases h0 : d = 0
  · subst h0; rw [Nat.pow_zero, Nat.mul_one]; exact h rfl
  · obtain ⟨e, rfl⟩ : ∃ e, d = e + 1 := ⟨d - 1, by omega⟩
    have : 1 ≤ 2 ^ e := Nat.one_le_two_pow
    have h2 : M * 1 ≤ M * 2 ^ e := Nat.mul_le_mul (Nat.le_refl _) this
    have a := hM.1
    have b := hM'.2
    rw [Nat.pow_succ, ← Nat.mul_assoc]
    omega
theorem sumE_words (ng : Bool) (s : Int) (M : Nat) (nl : Bool) (s' : Int) (M' : Nat) (hM : Mant M) (hM' : Mant M')
    (hle : s' ≤ s) (heq : s = s' → M' ≤ M) : sumD ng s M nl s' M' = exactV ng (sumE (ng == nl) M M' (lowE s s')) (s - 318) false := by
  obtain ⟨d, hd⟩ : ∃ d : Nat, (d : Int) = s - s' := ⟨(s - s').toNat, by omega⟩
  rw [sumD_near ng s _ nl s' _ hM hM' hle d hd]
  have hle2 : M' ≤ M * 2 ^ d := mant_le hM hM' (fun h0 => heq (by omega))
  have m0 : 1 ≤ M' := Nat.le_trans Nat.one_le_two_pow hM'.1
  have hlt : ∀ k, 128 ≤ k → M' < 2 ^ k := fun k hk => Nat.lt_of_lt_of_le hM'.2 (Nat.pow_le_pow_right (by decide) hk)
  rw [if_pos hle2]
  by_cases hs : ng = nl
  · rw [if_pos hs]
    have hb : (ng == nl) = true := by rw [hs]; simp
    unfold sumE
    rw [hb, if_pos rfl]
    by_cases hd2 : d ≤ 191
    · have hk : lowE s s' = 191 - d := by unfold lowE; omega
      have e2 : M * 2 ^ 191 + M' * 2 ^ (191 - d) = (M * 2 ^ d + M') * 2 ^ (191 - d) := by rw [Nat.add_mul, Nat.mul_assoc, ← Nat.pow_add, show d + (191 - d) = 191 by omega]
      rw [hk, e2, show s - 318 = (s - 127 - d) - ((191 - d : Nat) : Int) by omega, exactV_two]
    · have hk : lowE s s' = 0 := by unfold lowE; omega
      have a := far_add ng s (B := M') (d := d) hM m0 (hlt d (by omega))
      have b := far_add ng s (M := M) (B := M') (d := 191) hM m0 (hlt 191 (by omega))
      rw [hk, Nat.pow_zero, Nat.mul_one, a, ← b, show s - 127 - ((191 : Nat) : Int) = s - 318 by omega]
  · rw [if_neg hs]
    have hb : (ng == nl) = false := beq_eq_false_iff_ne.2 hs
    unfold sumE
    rw [hb, if_neg (by decide)]
    by_cases hd2 : d ≤ 191
    · have hk : lowE s s' = 191 - d := by unfold lowE; omega
      have e2 : M * 2 ^ 191 - M' * 2 ^ (191 - d) = (M * 2 ^ d - M') * 2 ^ (191 - d) := by rw [Nat.sub_mul, Nat.mul_assoc, ← Nat.pow_add, show d + (191 - d) = 191 by omega]
      rw [hk, e2, show s - 318 = (s - 127 - d) - ((191 - d : Nat) : Int) by omega, exactV_two]
    · have hk : lowE s s' = 0 := by unfold lowE; omega
      obtain ⟨e, rfl⟩ : ∃ e, d = e + 1 := ⟨d - 1, by omega⟩
      have a := far_sub ng s (B := M') (d := e) hM m0 (hlt e (by omega))
      have b := far_sub ng s (M := M) (B := M') (d := 190) hM m0 (hlt 190 (by omega))
      rw [hk, Nat.pow_zero, Nat.mul_one, a, ← b, show 190 + 1 = 191 from rfl, show s - 127 - ((191 : Nat) : Int) = s - 318 by omega]
theorem sumE_lt {same : Bool} {M M' k : Nat} (hM : M < 2 ^ 128) (hM' : M' < 2 ^ 128) (hk : k ≤ 191) : M * 2 ^ 191 < 1067993517960455041197510853084776057301352261178326384973520803911109862890320275011481043468288 ∧ M' * 2 ^ k < 1067993517960455041197510853084776057301352261178326384973520803911109862890320275011481043468288 ∧ sumE same M M' k < 2135987035920910082395021706169552114602704522356652769947041607822219725780640550022962086936576 := by
  have h1 : M * 2 ^ 191 < 1067993517960455041197510853084776057301352261178326384973520803911109862890320275011481043468288 := Nat.lt_of_lt_of_le ((Nat.mul_lt_mul_right (Nat.pow_pos (by decide))).2 hM) (by decide)
  have h2 : M' * 2 ^ k < 1067993517960455041197510853084776057301352261178326384973520803911109862890320275011481043468288 := Nat.lt_of_le_of_lt (Nat.mul_le_mul (Nat.le_refl M') (Nat.pow_le_pow_right (by decide) hk)) (Nat.lt_of_lt_of_le ((Nat.mul_lt_mul_right (Nat.pow_pos (by decide))).2 hM') (by decide))
  refine ⟨h1, h2, ?_⟩
  unfold sumE
  generalize M * 2 ^ 191 = X at *
  generalize M' * 2 ^ k = Y at *
  split <;> omega
/-- the first digits of a number that stands as high as it may -/
theorem exactV_top5 (neg : Bool) {n k a0 a1 a2 a3 a4 : Nat} (s : Int) (hn : n ≠ 0) (hk : k + blen n = 320) (h : Q5 (n * 2 ^ k) a0 a1 a2 a3 a4) :
    exactV neg n (s - 318) false = exactV neg (manX a4 a3) (s + 1 - k - 127) (decide (a0 ≠ 0 ∨ a1 ≠ 0 ∨ a2 ≠ 0)) ∧ 9223372036854775808 ≤ a4 := by
  obtain ⟨n1, n2⟩ := norm_two k hn
  have hb := blen_two k hn
  have hn0 : n * 2 ^ k ≠ 0 := fun c => by
    rcases Nat.mul_eq_zero.1 c with c | c
    · exact hn c
    · exact absurd c (Nat.pos_iff_ne_zero.1 (Nat.pow_pos (by decide)))
  have h320 : blen (n * 2 ^ k) = 320 := by omega
  have lo := blen_lo hn0
  rw [show blen (n * 2 ^ k) - 1 = 127 + 192 by omega] at lo
  have hi : n * 2 ^ k < 2135987035920910082395021706169552114602704522356652769947041607822219725780640550022962086936576 := blen320.1 (by omega)
  obtain ⟨_, m1, m2⟩ := @norm_at (n * 2 ^ k) 192 lo (by rw [pow320 (128 + 192) rfl]; exact hi)
  rw [pow319 (127 + 192) rfl] at lo
  obtain ⟨e, h0, h1, h2, h3, h4⟩ := h
  have et : 9223372036854775808 ≤ a4 := by
    omega
  have w0 : n * 2 ^ k / 2 ^ 192 = manX a4 a3 := by
    unfold manX
    rw [show (2 : Nat) ^ 192 = 6277101735386680763835789423207666416102355444464034512896 by decide]
    omega
  have w3 : decide (n * 2 ^ k % 2 ^ 192 ≠ 0) = decide (a0 ≠ 0 ∨ a1 ≠ 0 ∨ a2 ≠ 0) := by
    refine decide_eq_decide.2 ?_
    rw [show (2 : Nat) ^ 192 = 6277101735386680763835789423207666416102355444464034512896 by decide]
    omega
  have hM : Mant (manX a4 a3) := WordsX.mant ⟨et, by omega, by omega⟩
  obtain ⟨b, c1, c2⟩ := @norm_at (manX a4 a3) 0 hM.1 hM.2
  have hm0 : manX a4 a3 ≠ 0 := by unfold manX; omega
  refine ⟨?_, et⟩
  unfold exactV
  rw [if_neg hn, if_neg hm0, ← n1, ← n2, m1, m2, w0, w3, b, c1, c2, Nat.pow_zero, Nat.div_one, Nat.mod_one, show s - 318 + (blen n : Int) - 1 = s + 1 - (k : Int) - 127 + ((128 + 0 : Nat) : Int) - 1 by omega]
  simp
end Go.Proofs.YtheliihkkoohnabGreat

namespace Go.Proofs.YtheliihkkoohnabGreat
open Go.ChangeShapes Go.WideShapes Go.ChangeAt Go.RowKit
set_option linter.unusedVariables false
set_option linter.unusedSimpArgs false
set_option maxRecDepth 100000

/-! ### package fuse: the sum of two reals -/
theorem freals_up (ng : Bool) (s : Int) (hi lo : Nat) (nl : Bool) (s' : Int) (hi' lo' : Nat) (h : WordsX hi lo) (h' : WordsX hi' lo')
    (hs : -1099511627776 ≤ s ∧ s ≤ 1099511627776) (hs' : -1099511627776 ≤ s' ∧ s' ≤ 1099511627776) (hle : s' ≤ s) (heq : s = s' → manX hi' lo' ≤ manX hi lo) (w : World) :
    ((s = s' → manX hi' lo' ≤ manX hi lo) → Calls Tryz.prog 60 #[exV 1 ng s hi lo false, exV 1 nl s' hi' lo' false] w fun e w' => e = .returned (.tuple #[exactV ng (sumE (ng == nl) (manX hi lo) (manX hi' lo') (lowE s s')) (s - 318) false, .nilIface]) ∧ Below w.heap.size w w') ∧
    ((s = s' → manX hi' lo' < manX hi lo) → Calls Tryz.prog 60 #[exV 1 nl s' hi' lo' false, exV 1 ng s hi lo false] w fun e w' => e = .returned (.tuple #[exactV ng (sumE (ng == nl) (manX hi lo) (manX hi' lo') (lowE s s')) (s - 318) false, .nilIface]) ∧ Below w.heap.size w w') := by
  have hk : lowE s s' ≤ 191 := by unfold lowE; omega
  have hM := h.mant
  have hM' := h'.mant
  have ta : Tw (manX hi lo) hi lo := ⟨rfl, by have := h.hi64; omega, by have := h.lo64; omega⟩
  have tb : Tw (manX hi' lo') hi' lo' := ⟨rfl, by have := h'.hi64; omega, by have := h'.lo64; omega⟩
  have hgf0 : ∀ d : Nat, (d : Int) = s - s' → manX hi' lo' ≤ manX hi lo * 2 ^ d := fun d hd => mant_le hM hM' (fun h0 => heq (by omega))
  generalize manX hi lo = M at *
  generalize manX hi' lo' = M' at *
  obtain ⟨b1, b2, b3⟩ := sumE_lt (same := (ng == nl)) hM.2 hM'.2 hk
  obtain ⟨_, _, b4⟩ := sumE_lt (same := true) hM.2 hM'.2 hk
  have b4' : M * 2 ^ 191 + M' * 2 ^ lowE s s' < 2135987035920910082395021706169552114602704522356652769947041607822219725780640550022962086936576 := b4
  have hgf : M' * 2 ^ lowE s s' ≤ M * 2 ^ 191 := by
    obtain ⟨d, hd⟩ : ∃ d : Nat, (d : Int) = s - s' := ⟨(s - s').toNat, by omega⟩
    by_cases hd2 : d ≤ 191
    · have e : lowE s s' = 191 - d := by unfold lowE; omega
      have h1 := Nat.mul_le_mul (hgf0 d hd) (Nat.le_refl (2 ^ (191 - d)))
      rw [Nat.mul_assoc, ← Nat.pow_add, show d + (191 - d) = 191 by omega] at h1
      rw [e]; exact h1
    · have e : lowE s s' = 0 := by unfold lowE; omega
      rw [e, Nat.pow_zero, Nat.mul_one]
      have a := hM'.2
      have b : 1 * 2 ^ 191 ≤ M * 2 ^ 191 := Nat.mul_le_mul (Nat.le_trans Nat.one_le_two_pow hM.1) (Nat.le_refl _)
      omega
  obtain ⟨a0, a1, a2, a3, a4, ca⟩ := q5_ex (n := M * 2 ^ 191) (Nat.lt_trans b1 (by decide))
  obtain ⟨y0, y1, y2, y3, y4, cy⟩ := q5_ex (n := M' * 2 ^ lowE s s') (Nat.lt_trans b2 (by decide))
  obtain ⟨p0, p1, p2, p3, p4, cp⟩ := q5_ex b4'
  have k1 := fun w => fplaced_any (k := 191) ta (Nat.le_refl _) ca w
  have k2 := fun w => fplaced_any tb hk cy w
  have k3 := fun w => fplus_any ca cy cp w
  have ks := fun w => fcompare_any 1 ng s (a := M) (hi := hi) (lo := lo) false 1 nl s' (b := M') (hi' := hi') (lo' := lo') false ta tb w
  have kw := fun w => fcompare_any 1 nl s' (a := M') (hi := hi') (lo := lo') false 1 ng s (b := M) (hi' := hi) (lo' := lo) false tb ta w
  have zs : (s = s' → M' ≤ M) → decide (cmpR2 s M s' M' < 0) = false := fun h => decide_eq_false (fun c => by
    rcases (cmpR2_lt s M s' M').1 c with c | ⟨c, d⟩
    · omega
    · have := h c
      omega)
  have zw : (s = s' → M' < M) → decide (cmpR2 s' M' s M < 0) = true := fun h => decide_eq_true ((cmpR2_lt s' M' s M).2 (by
    by_cases c : s = s'
    · exact .inr ⟨c.symm, h c⟩
    · exact .inl (by omega)))
  have q1 : IntKind.i64.wrap (s - s') = s - s' := wrapI (by omega)
  have q2 : IntKind.i64.wrap (191 - (s - s')) = 191 - (s - s') := wrapI (by omega)
  have q3 : (if 191 - (s - s') < 0 then 0 else 191 - (s - s')) = ((lowE s s' : Nat) : Int) := by unfold lowE; split <;> omega
  have q4 : IntKind.i64.wrap (s + 1) = s + 1 := wrapI (by omega)
  have hX : 0 < M * 2 ^ 191 := Nat.mul_pos (by have := hM.1; have := Nat.pow_pos (n := 127) (show 0 < 2 by decide); omega) (Nat.pow_pos (by decide))
  by_cases hn : ng = nl
  · have hb : (ng == nl) = true := by rw [hn]; simp
    have hv : sumE (ng == nl) M M' (lowE s s') = M * 2 ^ 191 + M' * 2 ^ lowE s s' := by unfold sumE; rw [hb, if_pos rfl]
    rw [hv]
    have h0 : M * 2 ^ 191 + M' * 2 ^ lowE s s' ≠ 0 := by omega
    obtain ⟨k, r0, r1, r2, r3, r4, hkb, cr⟩ := risen5_at h0 b4'
    have hbl : 1 ≤ blen (M * 2 ^ 191 + M' * 2 ^ lowE s s') := by rw [blen_pos h0]; omega
    have k5 := fun w => frisen_any cp h0 hkb cr w
    obtain ⟨o, o2, q6, q9, q7⟩ := or_rest3 r0 r1 r2 cr.h0 cr.h1 cr.h2
    have q5 : IntKind.i64.wrap (s + 1 - (k : Int)) = s + 1 - k := wrapI (by omega)
    have q8 : IntKind.i64.wrap (s + 1 - (k : Int) - 127) = s + 1 - k - 127 := wrapI (by omega)
    have hz := q5_zero cp
    rw [decide_eq_false h0] at hz
    obtain ⟨et, top⟩ := exactV_top5 ng s h0 hkb cr
    rw [et]
    have k6 := rmake_ok ng r4 r3 (s + 1 - k - 127) (decide (r0 ≠ 0 ∨ r1 ≠ 0 ∨ r2 ≠ 0)) (by have := cr.h4; omega) (by have := cr.h3; omega) (by omega) (.inr top)
    obtain ⟨K, B, S, H, L, T, hf⟩ := exactV_form ng (manX r4 r3) (s + 1 - k - 127) (decide (r0 ≠ 0 ∨ r1 ≠ 0 ∨ r2 ≠ 0))
    rw [hf] at k6 ⊢
    exact ⟨fun h => freals_stay_same ng s hi lo nl s' hi' lo' _ _ _ _ _ _ _ _ _ _ _ _ _ _ _ _ _ _ _ _ _ _ _ _ _ _ _ _ _ k _ K B S H L T ks (zs h) k1 q1 q2 q3 k2 k3 hb hz k5 q4 q5 q8 q6 q9 q7 k6 w,
      fun h => freals_swap_same ng s hi lo nl s' hi' lo' _ _ _ _ _ _ _ _ _ _ _ _ _ _ _ _ _ _ _ _ _ _ _ _ _ _ _ _ _ k _ K B S H L T kw (zw h) k1 q1 q2 q3 k2 k3 hb hz k5 q4 q5 q8 q6 q9 q7 k6 w⟩
  · have hb : (ng == nl) = false := beq_eq_false_iff_ne.2 hn
    have hv : sumE (ng == nl) M M' (lowE s s') = M * 2 ^ 191 - M' * 2 ^ lowE s s' := by unfold sumE; rw [hb, if_neg (by decide)]
    rw [hv] at b3 ⊢
    obtain ⟨m0, m1, m2, m3, m4, cm⟩ := q5_ex b3
    have k4 := fun w => fminus_any ca cy hgf cm w
    have hz := q5_zero cm
    by_cases h0 : M * 2 ^ 191 - M' * 2 ^ lowE s s' = 0
    · rw [decide_eq_true h0] at hz
      have he : exactV ng (M * 2 ^ 191 - M' * 2 ^ lowE s s') (s - 318) false = exV 0 false 0 0 0 false := by unfold exactV; rw [if_pos h0]
      rw [he]
      exact ⟨fun h => freals_stay_zero ng s hi lo nl s' hi' lo' _ _ _ _ _ _ _ _ _ _ _ _ _ _ _ _ _ _ _ _ _ _ _ _ ks (zs h) k1 q1 q2 q3 k2 k3 hb k4 hz w,
        fun h => freals_swap_zero ng s hi lo nl s' hi' lo' _ _ _ _ _ _ _ _ _ _ _ _ _ _ _ _ _ _ _ _ _ _ _ _ kw (zw h) k1 q1 q2 q3 k2 k3 hb k4 hz w⟩
    · rw [decide_eq_false h0] at hz
      obtain ⟨k, r0, r1, r2, r3, r4, hkb, cr⟩ := risen5_at h0 b3
      have hbl : 1 ≤ blen (M * 2 ^ 191 - M' * 2 ^ lowE s s') := by rw [blen_pos h0]; omega
      have k5 := fun w => frisen_any cm h0 hkb cr w
      obtain ⟨o, o2, q6, q9, q7⟩ := or_rest3 r0 r1 r2 cr.h0 cr.h1 cr.h2
      have q5 : IntKind.i64.wrap (s + 1 - (k : Int)) = s + 1 - k := wrapI (by omega)
      have q8 : IntKind.i64.wrap (s + 1 - (k : Int) - 127) = s + 1 - k - 127 := wrapI (by omega)
      obtain ⟨et, top⟩ := exactV_top5 ng s h0 hkb cr
      rw [et]
      have k6 := rmake_ok ng r4 r3 (s + 1 - k - 127) (decide (r0 ≠ 0 ∨ r1 ≠ 0 ∨ r2 ≠ 0)) (by have := cr.h4; omega) (by have := cr.h3; omega) (by omega) (.inr top)
      obtain ⟨K, B, S, H, L, T, hf⟩ := exactV_form ng (manX r4 r3) (s + 1 - k - 127) (decide (r0 ≠ 0 ∨ r1 ≠ 0 ∨ r2 ≠ 0))
      rw [hf] at k6 ⊢
      exact ⟨fun h => freals_stay_diff ng s hi lo nl s' hi' lo' _ _ _ _ _ _ _ _ _ _ _ _ _ _ _ _ _ _ _ _ _ _ _ _ _ _ _ _ _ _ _ _ _ _ k _ K B S H L T ks (zs h) k1 q1 q2 q3 k2 k3 hb k4 hz k5 q4 q5 q8 q6 q9 q7 k6 w,
        fun h => freals_swap_diff ng s hi lo nl s' hi' lo' _ _ _ _ _ _ _ _ _ _ _ _ _ _ _ _ _ _ _ _ _ _ _ _ _ _ _ _ _ _ _ _ _ _ k _ K B S H L T kw (zw h) k1 q1 q2 q3 k2 k3 hb k4 hz k5 q4 q5 q8 q6 q9 q7 k6 w⟩
theorem freals_any (neg : Bool) (s : Int) (hi lo : Nat) (neg' : Bool) (s' : Int) (hi' lo' : Nat) (h : WordsX hi lo) (h' : WordsX hi' lo') (hs : -1099511627776 ≤ s ∧ s ≤ 1099511627776) (hs' : -1099511627776 ≤ s' ∧ s' ≤ 1099511627776) (w : World) :
    Calls Tryz.prog 60 #[exV 1 neg s hi lo false, exV 1 neg' s' hi' lo' false] w fun e w' => e = .returned (.tuple #[sumR neg s (manX hi lo) neg' s' (manX hi' lo'), .nilIface]) ∧ Below w.heap.size w w' := by
  by_cases c : s < s' ∨ (s = s' ∧ manX hi lo < manX hi' lo')
  · have hle : s ≤ s' := by omega
    have hw := (freals_up neg' s' hi' lo' neg s hi lo h' h hs' hs hle (fun h => by omega) w).2 (fun h => by omega)
    rw [← sumE_words neg' s' (manX hi' lo') neg s (manX hi lo) h'.mant h.mant hle (fun h => by omega)] at hw
    have e : sumR neg s (manX hi lo) neg' s' (manX hi' lo') = sumD neg' s' (manX hi' lo') neg s (manX hi lo) := by
      unfold sumR
      by_cases c2 : s < s'
      · rw [if_pos c2]
      · rw [if_neg c2]
        obtain rfl : s = s' := by omega
        rw [sumD_int neg s _ neg' s _ h.mant h'.mant (Int.le_refl _) s 0 0 (by omega) (by omega), sumD_int neg' s _ neg s _ h'.mant h.mant (Int.le_refl _) s 0 0 (by omega) (by omega), Int.add_comm]
    rw [e]
    exact hw
  · have hle : s' ≤ s := by omega
    have hw := (freals_up neg s hi lo neg' s' hi' lo' h h' hs hs' hle (fun h => by omega) w).1 (fun h => by omega)
    rw [← sumE_words neg s (manX hi lo) neg' s' (manX hi' lo') h.mant h'.mant hle (fun h => by omega)] at hw
    have e : sumR neg s (manX hi lo) neg' s' (manX hi' lo') = sumD neg s (manX hi lo) neg' s' (manX hi' lo') := by
      unfold sumR; rw [if_neg (by omega)]
    rw [e]
    exact hw
end Go.Proofs.YtheliihkkoohnabGreat
