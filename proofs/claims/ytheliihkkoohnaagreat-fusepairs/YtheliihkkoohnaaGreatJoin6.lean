import Derived.Test.YtheliihkkoohnaaGreatJoin4
import Derived.Test.YtheliihkkoohnaaGreatJoin5
import Derived.Test.YtheliihkkoohnaaGreatJoin2
namespace Go.Proofs.YtheliihkkoohnaaGreat
open Go.ChangeShapes Go.WideShapes Go.ChangeAt Go.RowKit
set_option linter.unusedVariables false
set_option linter.unusedSimpArgs false
set_option maxRecDepth 100000

/-! ### two arrays of five words, compared -/
theorem run_equalIn_arr5 {P : Program} (w : World) (d : Nat) (t e : TypeId) (a0 a1 a2 a3 a4 b0 b1 b2 b3 b4 : Int) (ht : P.underlying t = some (.array 5 e)) (he : P.underlying e = some (.int .u64)) (hz : ∀ w, (sizeOf e).run P w = .ok 1 w) :
    (Op.equalIn (d + 2) t (.agg #[.int .u64 a0, .int .u64 a1, .int .u64 a2, .int .u64 a3, .int .u64 a4]) (.agg #[.int .u64 b0, .int .u64 b1, .int .u64 b2, .int .u64 b3, .int .u64 b4])).run P w = .ok (decide (a0 = b0) && decide (a1 = b1) && decide (a2 = b2) && decide (a3 = b3) && decide (a4 = b4)) w := by
  have hk := fun w a b => run_equalIn_int (P := P) w d e .u64 .u64 a b he
  have hg : ∀ w, (isAgg e).run P w = .ok false w := fun w => by simp [isAgg, run_underlying he]
  rw [Op.equalIn]
  simp [Sem.run_bind, run_underlying ht, List.range', go_sem, hk, hz, hg]
  by_cases h0 : a0 = b0 <;> by_cases h1 : a1 = b1 <;> by_cases h2 : a2 = b2 <;> by_cases h3 : a3 = b3 <;> by_cases h4 : a4 = b4 <;> simp [h0, h1, h2, h3, h4]
theorem eql5_words (p0 p1 p2 p3 p4 : Int) (w : World) :
    (Op.equalIn 10000 104 (.agg #[.int .u64 p0, .int .u64 p1, .int .u64 p2, .int .u64 p3, .int .u64 p4]) (.agg #[.int .u64 0, .int .u64 0, .int .u64 0, .int .u64 0, .int .u64 0])).run Tryz.prog w = .ok (decide (p0 = 0) && decide (p1 = 0) && decide (p2 = 0) && decide (p3 = 0) && decide (p4 = 0)) w :=
  run_equalIn_arr5 w 9998 _ 22 p0 p1 p2 p3 p4 0 0 0 0 0 Tryz.underlying104 Tryz.underlying22 (fun w => by simp [go_sem, sizeOf]; rfl)
/-! ### two reals -/
set_option maxHeartbeats 8000000 in
theorem freals_stay_same (ng : Bool) (sg : Int) (hg lg : Nat) (nl : Bool) (sl : Int) (hl ll : Nat) (zz D E : Int) (kk : Nat) (a0 a1 a2 a3 a4 y0 y1 y2 y3 y4 p0 p1 p2 p3 p4 : Nat) (r0 r1 r2 r3 r4 o o2 : Nat) (uu vv sc : Int) (k : Nat) (t : Bool) (K : Int) (B : Bool) (S : Int) (H L : Nat) (T : Bool)
    (k0 : ∀ w, Calls Tryz.prog 62 #[exV 1 ng sg hg lg false, exV 1 nl sl hl ll false] w fun e w' => e = .returned (.int .i64 zz) ∧ Below w.heap.size w w')
    (hz : decide (zz < 0) = false)
    (k1 : ∀ w, Calls Tryz.prog 63 #[.agg #[.int .u64 hg, .int .u64 lg], .int .i64 191] w fun e w' => e = .returned (.agg #[.int .u64 a0, .int .u64 a1, .int .u64 a2, .int .u64 a3, .int .u64 a4]) ∧ Below w.heap.size w w')
    (q1 : IntKind.i64.wrap (sg - sl) = D) (q2 : IntKind.i64.wrap (191 - D) = E) (q3 : (if E < 0 then 0 else E) = (kk : Int))
    (k2 : ∀ w, Calls Tryz.prog 63 #[.agg #[.int .u64 hl, .int .u64 ll], .int .i64 kk] w fun e w' => e = .returned (.agg #[.int .u64 y0, .int .u64 y1, .int .u64 y2, .int .u64 y3, .int .u64 y4]) ∧ Below w.heap.size w w')
    (k3 : ∀ w, Calls Tryz.prog 65 #[.agg #[.int .u64 a0, .int .u64 a1, .int .u64 a2, .int .u64 a3, .int .u64 a4], .agg #[.int .u64 y0, .int .u64 y1, .int .u64 y2, .int .u64 y3, .int .u64 y4]] w fun e w' => e = .returned (.agg #[.int .u64 p0, .int .u64 p1, .int .u64 p2, .int .u64 p3, .int .u64 p4]) ∧ Below w.heap.size w w')
    (hs : (ng == nl) = true)
    (h0 : (decide ((p0 : Int) = 0) && decide ((p1 : Int) = 0) && decide ((p2 : Int) = 0) && decide ((p3 : Int) = 0) && decide ((p4 : Int) = 0)) = false)
    (k5 : ∀ w, Calls Tryz.prog 67 #[.agg #[.int .u64 p0, .int .u64 p1, .int .u64 p2, .int .u64 p3, .int .u64 p4]] w fun e w' => e = .returned (.tuple #[.agg #[.int .u64 r0, .int .u64 r1, .int .u64 r2, .int .u64 r3, .int .u64 r4], .int .i64 k]) ∧ Below w.heap.size w w')
    (q4 : IntKind.i64.wrap (sg + 1) = uu) (q5 : IntKind.i64.wrap (uu - (k : Int)) = vv) (q8 : IntKind.i64.wrap (vv - 127) = sc) (q6 : bits BinOp.or IntKind.u64 (r2 : Int) (r1 : Int) = (o : Int)) (q9 : bits BinOp.or IntKind.u64 (o : Int) (r0 : Int) = (o2 : Int)) (q7 : ((o2 : Int) != 0) = t)
    (k6 : ∀ w, Calls Tryz.prog 50 #[.bool ng, .int .u64 r4, .int .u64 r3, .int .i64 sc, .bool t] w fun e w' => e = .returned (.tuple #[exV K B S H L T, .nilIface]) ∧ Below w.heap.size w w') (w : World) :
    Calls Tryz.prog 35 #[exV 1 ng sg hg lg false, exV 1 nl sl hl ll false] w fun e w' => e = .returned (.tuple #[exV K B S H L T, .nilIface]) ∧ Below w.heap.size w w' := by
  have dg := fdigits_any 1 ng sg hg lg false
  have dl := fdigits_any 1 nl sl hl ll false
  unfold exV at *
  have heq := eql5_words p0 p1 p2 p3 p4
  rw [h0] at heq
  have v0 : IntKind.i64.wrap 0 = 0 := rfl
  have v1 : IntKind.i64.wrap 1 = 1 := rfl
  have v2 : IntKind.i64.wrap 2 = 2 := rfl
  have v3 : IntKind.i64.wrap 3 = 3 := rfl
  have v4 : IntKind.i64.wrap 4 = 4 := rfl
  refine cps fun Q hQ => ?_
  go_enter Tryz.func35, Tryz.ntmps35
  go_upto_region 3 with (go_at_call 62; go_must (refine (k0 _).mono ?_); rintro e w1 ⟨rfl, hb1⟩; have R1_0 := (hb1.block (w.heap.size) (by first | (simp; done) | (simp; omega) | omega)).trans ((Below.heap_alloc _ _ _ (by first | (simp; done) | (simp; omega) | omega)).trans ((Below.heap_alloc _ _ _ (by first | (simp; done) | (simp; omega) | omega)).trans (rownew' _ _ _ _ (by simp)))); have z1_0 : w.heap.size < w1.heap.size := Nat.lt_of_lt_of_le (by first | (simp; done) | (simp; omega) | omega) hb1.size; have c1_0_0 := rowcell R1_0 0; have c1_0_1 := rowcell R1_0 1; have c1_0_2 := rowcell R1_0 2; have c1_0_3 := rowcell R1_0 3; have c1_0_4 := rowcell R1_0 4; have c1_0_5 := rowcell R1_0 5; simp only [List.getElem?_toArray, List.getElem?_cons_zero, List.getElem?_cons_succ] at c1_0_0 c1_0_1 c1_0_2 c1_0_3 c1_0_4 c1_0_5; have HR1_0 : Hid _ := R1_0; clear R1_0; have R1_1 := (hb1.block (w.heap.size + 1) (by first | (simp; done) | (simp; omega) | omega)).trans ((Below.heap_alloc _ _ _ (by first | (simp; done) | (simp; omega) | omega)).trans (rownew' _ _ _ _ (by simp))); have z1_1 : w.heap.size + 1 < w1.heap.size := Nat.lt_of_lt_of_le (by first | (simp; done) | (simp; omega) | omega) hb1.size; have c1_1_0 := rowcell R1_1 0; have c1_1_1 := rowcell R1_1 1; have c1_1_2 := rowcell R1_1 2; have c1_1_3 := rowcell R1_1 3; have c1_1_4 := rowcell R1_1 4; have c1_1_5 := rowcell R1_1 5; simp only [List.getElem?_toArray, List.getElem?_cons_zero, List.getElem?_cons_succ] at c1_1_0 c1_1_1 c1_1_2 c1_1_3 c1_1_4 c1_1_5; have HR1_1 : Hid _ := R1_1; clear R1_1; have R1_2 := (hb1.block (w.heap.size + 1 + 1) (by first | (simp; done) | (simp; omega) | omega)).trans (rownew' _ _ _ _ (by simp)); have z1_2 : w.heap.size + 1 + 1 < w1.heap.size := Nat.lt_of_lt_of_le (by first | (simp; done) | (simp; omega) | omega) hb1.size; have HR1_2 : Hid _ := R1_2; clear R1_2; have HB1 : Hid (Below _ _ _) := hb1; clear hb1; have fr0 := rowfree HR1_0.out; have fr1 := rowfree HR1_1.out; have fr2 := rowfree HR1_2.out)
  have HBW : Hid (Below w.heap.size w w1) := cthen (cmore (cmore (cmore (Below.refl _ _) _) _) _) HB1.out
  clear c1_0_0 c1_0_1 c1_0_2 c1_0_3 c1_0_4 c1_0_5 c1_1_0 c1_1_1 c1_1_2 c1_1_3 c1_1_4 c1_1_5 fr0 fr1 fr2
  have x0_ := rowcell HR1_0.out 0
  have x1_ := rowcell HR1_0.out 1
  have x2_ := rowcell HR1_0.out 2
  have x3_ := rowcell HR1_0.out 3
  have x4_ := rowcell HR1_0.out 4
  have x5_ := rowcell HR1_0.out 5
  simp only [List.getElem?_toArray, List.getElem?_cons_zero, List.getElem?_cons_succ] at x0_ x1_ x2_ x3_ x4_ x5_
  go_upto_region 4 with (first
    | (go_at_call 63; have chk := HB2; go_must (refine (k1 _).mono ?_); rintro e w3 ⟨rfl, hb3⟩; have R3_0 := (hb3.block (w.heap.size) (by first | (simp; done) | (simp; omega) | omega)).trans HR2_0.out; have z3_0 : w.heap.size < w3.heap.size := Nat.lt_of_lt_of_le (by first | (simp; done) | (simp; omega) | omega) hb3.size; have HR3_0 : Hid _ := R3_0; clear R3_0; have R3_1 := (hb3.block (w.heap.size + 1) (by first | (simp; done) | (simp; omega) | omega)).trans HR2_1.out; have z3_1 : w.heap.size + 1 < w3.heap.size := Nat.lt_of_lt_of_le (by first | (simp; done) | (simp; omega) | omega) hb3.size; have HR3_1 : Hid _ := R3_1; clear R3_1; have R3_2 := (hb3.block (w.heap.size + 1 + 1) (by first | (simp; done) | (simp; omega) | omega)).trans HR2_2.out; have z3_2 : w.heap.size + 1 + 1 < w3.heap.size := Nat.lt_of_lt_of_le (by first | (simp; done) | (simp; omega) | omega) hb3.size; have HR3_2 : Hid _ := R3_2; clear R3_2; have HB3 : Hid (Below _ _ _) := hb3; clear hb3)
    | (go_at_call 64; go_must (refine (dg _).mono ?_); rintro e w2 ⟨rfl, hb2⟩; have R2_0 := (hb2.block (w.heap.size) (by first | (simp; done) | (simp; omega) | omega)).trans HR1_0.out; have z2_0 : w.heap.size < w2.heap.size := Nat.lt_of_lt_of_le (by first | (simp; done) | (simp; omega) | omega) hb2.size; have HR2_0 : Hid _ := R2_0; clear R2_0; have R2_1 := (hb2.block (w.heap.size + 1) (by first | (simp; done) | (simp; omega) | omega)).trans HR1_1.out; have z2_1 : w.heap.size + 1 < w2.heap.size := Nat.lt_of_lt_of_le (by first | (simp; done) | (simp; omega) | omega) hb2.size; have HR2_1 : Hid _ := R2_1; clear R2_1; have R2_2 := (hb2.block (w.heap.size + 1 + 1) (by first | (simp; done) | (simp; omega) | omega)).trans HR1_2.out; have z2_2 : w.heap.size + 1 + 1 < w2.heap.size := Nat.lt_of_lt_of_le (by first | (simp; done) | (simp; omega) | omega) hb2.size; have HR2_2 : Hid _ := R2_2; clear R2_2; have HB2 : Hid (Below _ _ _) := hb2; clear hb2))
  clear x0_ x1_ x2_ x3_ x4_ x5_
  generalize hw4 : World.alloc w3 _ = w4
  have HR4_0 := (show Hid _ from (by rw [← hw4]; exact (Below.heap_alloc _ _ _ (by omega)).trans HR3_0.out : w4.heap[w.heap.size]? = some (.cells #[.int .i64 1, .bool ng, .int .i64 sg, .int .u64 hg, .int .u64 lg, .bool false] 39 (0, 0))))
  have HR4_1 := (show Hid _ from (by rw [← hw4]; exact (Below.heap_alloc _ _ _ (by omega)).trans HR3_1.out : w4.heap[w.heap.size + 1]? = some (.cells #[.int .i64 1, .bool nl, .int .i64 sl, .int .u64 hl, .int .u64 ll, .bool false] 39 (0, 0))))
  have HR4_2 := (show Hid _ from (by rw [← hw4]; exact (Below.heap_alloc _ _ _ (by omega)).trans HR3_2.out : w4.heap[w.heap.size + 1 + 1]? = some (.cells #[.int .i64 0, .bool false, .int .i64 0, .int .u64 0, .int .u64 0, .bool false] 39 (0, 0))))
  have HR4_3 := (show Hid _ from (by rw [← hw4]; exact rownew _ _ _ : w4.heap[w3.heap.size]? = some (.cells #[.int .u64 a0, .int .u64 a1, .int .u64 a2, .int .u64 a3, .int .u64 a4] 104 (0, 0))))
  have HBX : Hid (Below w.heap.size w w4) := by show Below _ _ _; rw [← hw4]; exact cmore (cthen (cthen (HBW.out) HB2.out) HB3.out) _
  clear hw4
  have y4_0 : w.heap.size < w4.heap.size := rowlt HR4_0.out
  have y4_1 : w.heap.size + 1 < w4.heap.size := rowlt HR4_1.out
  have y4_2 : w.heap.size + 1 + 1 < w4.heap.size := rowlt HR4_2.out
  have y4_3 : w3.heap.size < w4.heap.size := rowlt HR4_3.out
  have cls : ∀ V, Below w4.heap.size w4 V → V.cell? ⟨w.heap.size, 2, none⟩ = some (.int .i64 sg) ∧ V.cell? ⟨w.heap.size + 1, 0, none⟩ = some (.int .i64 1) ∧ V.cell? ⟨w.heap.size + 1, 1, none⟩ = some (.bool nl) ∧ V.cell? ⟨w.heap.size + 1, 2, none⟩ = some (.int .i64 sl) ∧ V.cell? ⟨w.heap.size + 1, 3, none⟩ = some (.int .u64 hl) ∧ V.cell? ⟨w.heap.size + 1, 4, none⟩ = some (.int .u64 ll) ∧ V.cell? ⟨w.heap.size + 1, 5, none⟩ = some (.bool false) := fun V hV => by
    have q0 := (hV.block (w.heap.size) y4_0).trans HR4_0.out
    have q1 := (hV.block (w.heap.size + 1) y4_1).trans HR4_1.out
    exact ⟨rowcell q0 2, rowcell q1 0, rowcell q1 1, rowcell q1 2, rowcell q1 3, rowcell q1 4, rowcell q1 5⟩
  have B4 : Below w4.heap.size w4 w4 := Below.refl _ _
  go_cut [7] from 19 (fun s7 wx => ∃ n : Nat, s7 = .pointer (some ⟨n, 0, none⟩) ∧ Hid (Below w4.heap.size w4 wx) ∧ w4.heap.size ≤ n ∧ Hid (wx.heap[n]? = some (.cells #[.int .u64 y0, .int .u64 y1, .int .u64 y2, .int .u64 y3, .int .u64 y4] 104 (0, 0))))
  case first =>
    refine wpC_region (fun V => V.cell? ⟨w.heap.size, 2, none⟩ = some (.int .i64 sg) ∧ V.cell? ⟨w.heap.size + 1, 0, none⟩ = some (.int .i64 1) ∧ V.cell? ⟨w.heap.size + 1, 1, none⟩ = some (.bool nl) ∧ V.cell? ⟨w.heap.size + 1, 2, none⟩ = some (.int .i64 sl) ∧ V.cell? ⟨w.heap.size + 1, 3, none⟩ = some (.int .u64 hl) ∧ V.cell? ⟨w.heap.size + 1, 4, none⟩ = some (.int .u64 ll) ∧ V.cell? ⟨w.heap.size + 1, 5, none⟩ = some (.bool false)) (by kernel_rfl) ?_
    refine wpC_take 0 (v := ?_) rfl (by kernel_rfl) (fun _ _ _ h => h) (by kernel_rfl) ?_ ?_; rotate_left; · (intro wC hC; obtain ⟨d0, d1, d2, d3, d4, d5, d6⟩ := hC; go_simp <;> with_reducible rfl)
    refine wpC_take 2 (v := ?_) rfl (by kernel_rfl) (fun _ _ _ h => h) (by kernel_rfl) ?_ ?_; rotate_left; · (intro wC hC; obtain ⟨d0, d1, d2, d3, d4, d5, d6⟩ := hC; go_simp <;> with_reducible rfl)
    refine wpC_take 3 (v := ?_) rfl (by kernel_rfl) (fun _ _ _ h => h) (by kernel_rfl) ?_ ?_; rotate_left; · (intro wC hC; obtain ⟨d0, d1, d2, d3, d4, d5, d6⟩ := hC; go_simp <;> with_reducible rfl)
    refine wpC_take 4 (v := ?_) rfl (by kernel_rfl) (fun _ _ _ h => h) (by kernel_rfl) ?_ ?_; rotate_left; · (intro wC hC; obtain ⟨d0, d1, d2, d3, d4, d5, d6⟩ := hC; go_simp <;> with_reducible rfl)
    refine wpC_take 5 (v := ?_) rfl (by kernel_rfl) (fun _ _ _ h => h) (by kernel_rfl) ?_ ?_; rotate_left; · (intro wC hC; obtain ⟨d0, d1, d2, d3, d4, d5, d6⟩ := hC; go_simp <;> with_reducible rfl)
    refine wpC_take 6 (v := ?_) rfl (by kernel_rfl) (fun _ _ _ h => h) (by kernel_rfl) ?_ ?_; rotate_left; · (intro wC hC; obtain ⟨d0, d1, d2, d3, d4, d5, d6⟩ := hC; go_simp <;> with_reducible rfl)
    refine wpC_take 7 (v := ?_) rfl (by kernel_rfl) (fun _ _ _ h => h) (by kernel_rfl) ?_ ?_; rotate_left; · (intro wC hC; obtain ⟨d0, d1, d2, d3, d4, d5, d6⟩ := hC; go_simp <;> with_reducible rfl)
    refine wpC_take 8 (v := ?_) rfl (by kernel_rfl) (fun _ _ _ h => h) (by kernel_rfl) ?_ ?_; rotate_left; · (intro wC hC; obtain ⟨d0, d1, d2, d3, d4, d5, d6⟩ := hC; go_simp <;> with_reducible rfl)
    refine wpC_two 1 10 rfl rfl (by kernel_rfl) (by kernel_rfl) (by kernel_rfl) (cls _ (bdrew B4)) (fun K hK => ?_) (fun K hK => ?_)
    · skip
      go_simp
      go_wp2_with ((go_at_call 64; refine (dl _).mono ?_; rintro e w5 ⟨rfl, hb5⟩; have B5 := bthen (bdrew B4) hb5))
      try (refine hK _ _ ?_; clear hK K)
      refine wpC_two 9 10 rfl rfl (by kernel_rfl) (by kernel_rfl) (by kernel_rfl) (cls _ B5) (fun K hK => ?_) (fun K hK => ?_)
      · skip
        go_simp
        go_wp2_with ((go_at_call 63; refine (k2 _).mono ?_; rintro e w6 ⟨rfl, hb6⟩; have B6 := bthen (B5) hb6))
        try (refine hK _ _ ?_; clear hK K)
        refine wpC_step 10 rfl (by kernel_rfl) (by kernel_rfl) (cls _ B6) (fun K hK => ?_)
        go_simp
        try (refine hK _ _ ?_; clear hK K)
        refine wpC_step 11 rfl (by kernel_rfl) (by kernel_rfl) (cls _ (bmore B6 _)) (fun K hK => ?_)
        go_simp
        try (refine hK _ _ ?_; clear hK K)
        refine wpC_done (by kernel_rfl) (cls _ (bmore B6 _)) ?_
        go_wp2_with fail
        go_meet
        case rel => exact ⟨_, rfl, bmore B6 _, B6.size, rownew _ _ _⟩
      · skip
        go_simp
        try (refine hK _ _ ?_; clear hK K)
        refine wpC_step 9 rfl (by kernel_rfl) (by kernel_rfl) (cls _ (bmore B5 _)) (fun K hK => ?_)
        go_simp
        go_wp2_with ((go_at_call 63; refine (k2 _).mono ?_; rintro e w6 ⟨rfl, hb6⟩; have B6 := bthen (bmore B5 _) hb6; have R6 := (hb6.block (w5.heap.size) (by simp)).trans (rownew _ _ _); have rf := rowfree R6; have rl := rowlt R6; have rc0 := rowcell R6 0; have rc1 := rowcell R6 1; have rc2 := rowcell R6 2; have rc3 := rowcell R6 3; have rc4 := rowcell R6 4; simp only [List.getElem?_toArray, List.getElem?_cons_zero, List.getElem?_cons_succ] at rc0 rc1 rc2 rc3 rc4))
        try (refine hK _ _ ?_; clear hK K)
        have y5 := B5.size
        refine wpC_step 11 rfl (by kernel_rfl) (by kernel_rfl) (cls _ B6) (fun K hK => ?_)
        go_simp
        try (refine hK _ _ ?_; clear hK K)
        refine wpC_done (by kernel_rfl) (cls _ (cset5 B6 y5)) ?_
        go_wp2_with fail
        go_meet
        case rel => exact ⟨_, rfl, cset5 B6 y5, y5, row5 R6⟩
    · skip
      go_simp
      try (refine hK _ _ ?_; clear hK K)
      refine wpC_step 1 rfl (by kernel_rfl) (by kernel_rfl) (cls _ (bmore (bdrew B4) _)) (fun K hK => ?_)
      go_simp
      go_wp2_with ((go_at_call 64; refine (dl _).mono ?_; rintro e w5 ⟨rfl, hb5⟩; have B5 := bthen (bmore (bdrew B4) _) hb5; have R5 := (hb5.block (w4.heap.size) (by simp)).trans (rownew _ _ _); have y5 := rowlt R5))
      try (refine hK _ _ ?_; clear hK K)
      refine wpC_step 9 rfl (by kernel_rfl) (by kernel_rfl) (cls _ B5) (fun K hK => ?_)
      go_simp
      go_wp2_with ((go_at_call 63; refine (k2 _).mono ?_; rintro e w6 ⟨rfl, hb6⟩; have B6 := bthen (B5) hb6; have R6 := (hb6.block (w4.heap.size) y5).trans (R5); have rf := rowfree R6; have rl := rowlt R6; have rc0 := rowcell R6 0; have rc1 := rowcell R6 1; have rc2 := rowcell R6 2; have rc3 := rowcell R6 3; have rc4 := rowcell R6 4; simp only [List.getElem?_toArray, List.getElem?_cons_zero, List.getElem?_cons_succ] at rc0 rc1 rc2 rc3 rc4))
      try (refine hK _ _ ?_; clear hK K)
      refine wpC_step 11 rfl (by kernel_rfl) (by kernel_rfl) (cls _ B6) (fun K hK => ?_)
      go_simp
      try (refine hK _ _ ?_; clear hK K)
      refine wpC_done (by kernel_rfl) (cls _ (cset5 B6 (Nat.le_refl _))) ?_
      go_wp2_with fail
      go_meet
      case rel => exact ⟨_, rfl, cset5 B6 (Nat.le_refl _), Nat.le_refl _, row5 R6⟩
  case rest =>
    obtain ⟨n, rfl, hbx, hn, hrx⟩ := hcut
    have HB4 : Hid (Below w4.heap.size w4 wc) := hbx.out
    have HR5_0 := (show Hid _ from (hbx.out.block (w.heap.size) y4_0).trans HR4_0.out)
    have HR5_1 := (show Hid _ from (hbx.out.block (w.heap.size + 1) y4_1).trans HR4_1.out)
    have HR5_2 := (show Hid _ from (hbx.out.block (w.heap.size + 1 + 1) y4_2).trans HR4_2.out)
    have HR5_3 := (show Hid _ from (hbx.out.block (w3.heap.size) y4_3).trans HR4_3.out)
    have HR5_4 := hrx
    have z5_0 : w.heap.size < wc.heap.size := rowlt HR5_0.out
    have z5_1 : w.heap.size + 1 < wc.heap.size := rowlt HR5_1.out
    have z5_2 : w.heap.size + 1 + 1 < wc.heap.size := rowlt HR5_2.out
    have z5_3 : w3.heap.size < wc.heap.size := rowlt HR5_3.out
    have z5_4 : n < wc.heap.size := rowlt HR5_4.out
    have y5_3 : w.heap.size + 1 + 1 < w3.heap.size := by omega
    have HBY : Hid (Below w.heap.size w wc) := cthen HBX.out HB4.out
    clear hbx hrx cls B4 HBX HB4
    have k3_0 := rowcell HR5_3.out 0
    have k3_1 := rowcell HR5_3.out 1
    have k3_2 := rowcell HR5_3.out 2
    have k3_3 := rowcell HR5_3.out 3
    have k3_4 := rowcell HR5_3.out 4
    have k4_0 := rowcell HR5_4.out 0
    have k4_1 := rowcell HR5_4.out 1
    have k4_2 := rowcell HR5_4.out 2
    have k4_3 := rowcell HR5_4.out 3
    have k4_4 := rowcell HR5_4.out 4
    have k0_1 := rowcell HR5_0.out 1
    have k1_1 := rowcell HR5_1.out 1
    simp only [List.getElem?_toArray, List.getElem?_cons_zero, List.getElem?_cons_succ] at k0_1 k1_1 k3_0 k3_1 k3_2 k3_3 k3_4 k4_0 k4_1 k4_2 k4_3 k4_4
    go_wp2_with (first
      | (go_at_call 65; go_must (refine (k3 _).mono ?_); rintro e w6 ⟨rfl, hb6⟩; have R6_0 := (hb6.block (w.heap.size) (by first | (simp; done) | (simp; omega) | omega)).trans HR5_0.out; have z6_0 : w.heap.size < w6.heap.size := Nat.lt_of_lt_of_le (by first | (simp; done) | (simp; omega) | omega) hb6.size; have c6_0_1 := rowcell R6_0 1; simp only [List.getElem?_toArray, List.getElem?_cons_zero, List.getElem?_cons_succ] at c6_0_1; have HR6_0 : Hid _ := R6_0; clear R6_0; have R6_1 := (hb6.block (w.heap.size + 1) (by first | (simp; done) | (simp; omega) | omega)).trans HR5_1.out; have z6_1 : w.heap.size + 1 < w6.heap.size := Nat.lt_of_lt_of_le (by first | (simp; done) | (simp; omega) | omega) hb6.size; have c6_1_1 := rowcell R6_1 1; simp only [List.getElem?_toArray, List.getElem?_cons_zero, List.getElem?_cons_succ] at c6_1_1; have HR6_1 : Hid _ := R6_1; clear R6_1; have R6_2 := (hb6.block (w.heap.size + 1 + 1) (by first | (simp; done) | (simp; omega) | omega)).trans HR5_2.out; have z6_2 : w.heap.size + 1 + 1 < w6.heap.size := Nat.lt_of_lt_of_le (by first | (simp; done) | (simp; omega) | omega) hb6.size; have HR6_2 : Hid _ := R6_2; clear R6_2; have R6_3 := (hb6.block (w3.heap.size) (by first | (simp; done) | (simp; omega) | omega)).trans HR5_3.out; have z6_3 : w3.heap.size < w6.heap.size := Nat.lt_of_lt_of_le (by first | (simp; done) | (simp; omega) | omega) hb6.size; have HR6_3 : Hid _ := R6_3; clear R6_3; have R6_4 := (hb6.block (n) (by first | (simp; done) | (simp; omega) | omega)).trans HR5_4.out; have z6_4 : n < w6.heap.size := Nat.lt_of_lt_of_le (by first | (simp; done) | (simp; omega) | omega) hb6.size; have HR6_4 : Hid _ := R6_4; clear R6_4; have HB6 : Hid (Below _ _ _) := hb6; clear hb6)
      | (go_at_call 67; go_must (refine (k5 _).mono ?_); rintro e w7 ⟨rfl, hb7⟩; have R7_0 := (hb7.block (w.heap.size) (by first | (simp; done) | (simp; omega) | omega)).trans ((Below.heap_alloc _ _ _ (by first | (simp; done) | (simp; omega) | omega)).trans HR6_0.out); have z7_0 : w.heap.size < w7.heap.size := Nat.lt_of_lt_of_le (by first | (simp; done) | (simp; omega) | omega) hb7.size; have c7_0_1 := rowcell R7_0 1; have c7_0_2 := rowcell R7_0 2; simp only [List.getElem?_toArray, List.getElem?_cons_zero, List.getElem?_cons_succ] at c7_0_1 c7_0_2; have HR7_0 : Hid _ := R7_0; clear R7_0; have R7_1 := (hb7.block (w.heap.size + 1) (by first | (simp; done) | (simp; omega) | omega)).trans ((Below.heap_alloc _ _ _ (by first | (simp; done) | (simp; omega) | omega)).trans HR6_1.out); have z7_1 : w.heap.size + 1 < w7.heap.size := Nat.lt_of_lt_of_le (by first | (simp; done) | (simp; omega) | omega) hb7.size; have HR7_1 : Hid _ := R7_1; clear R7_1; have R7_2 := (hb7.block (w.heap.size + 1 + 1) (by first | (simp; done) | (simp; omega) | omega)).trans ((Below.heap_alloc _ _ _ (by first | (simp; done) | (simp; omega) | omega)).trans HR6_2.out); have z7_2 : w.heap.size + 1 + 1 < w7.heap.size := Nat.lt_of_lt_of_le (by first | (simp; done) | (simp; omega) | omega) hb7.size; have HR7_2 : Hid _ := R7_2; clear R7_2; have R7_3 := (hb7.block (w3.heap.size) (by first | (simp; done) | (simp; omega) | omega)).trans ((Below.heap_alloc _ _ _ (by first | (simp; done) | (simp; omega) | omega)).trans HR6_3.out); have z7_3 : w3.heap.size < w7.heap.size := Nat.lt_of_lt_of_le (by first | (simp; done) | (simp; omega) | omega) hb7.size; have HR7_3 : Hid _ := R7_3; clear R7_3; have R7_4 := (hb7.block (n) (by first | (simp; done) | (simp; omega) | omega)).trans ((Below.heap_alloc _ _ _ (by first | (simp; done) | (simp; omega) | omega)).trans HR6_4.out); have z7_4 : n < w7.heap.size := Nat.lt_of_lt_of_le (by first | (simp; done) | (simp; omega) | omega) hb7.size; have HR7_4 : Hid _ := R7_4; clear R7_4; have R7_5 := (hb7.block (w6.heap.size) (by first | (simp; done) | (simp; omega) | omega)).trans (rownew' _ _ _ _ (by simp)); have z7_5 : w6.heap.size < w7.heap.size := Nat.lt_of_lt_of_le (by first | (simp; done) | (simp; omega) | omega) hb7.size; have c7_5_0 := rowcell R7_5 0; have c7_5_1 := rowcell R7_5 1; have c7_5_2 := rowcell R7_5 2; have c7_5_3 := rowcell R7_5 3; have c7_5_4 := rowcell R7_5 4; simp only [List.getElem?_toArray, List.getElem?_cons_zero, List.getElem?_cons_succ] at c7_5_0 c7_5_1 c7_5_2 c7_5_3 c7_5_4; have HR7_5 : Hid _ := R7_5; clear R7_5; have HB7 : Hid (Below _ _ _) := hb7; clear hb7; have g5 := rowfree HR7_5.out; have g2 := rowfree HR7_2.out)
      | (go_at_call 50; go_must (refine (k6 _).mono ?_); rintro e w8 ⟨rfl, hb8⟩; have R8_0 := (hb8.block (w.heap.size) (by first | (simp; done) | (simp; omega) | omega)).trans (row5_other HR7_0.out (by omega)); have z8_0 : w.heap.size < w8.heap.size := Nat.lt_of_lt_of_le (by first | (simp; done) | (simp; omega) | omega) hb8.size; have HR8_0 : Hid _ := R8_0; clear R8_0; have R8_1 := (hb8.block (w.heap.size + 1) (by first | (simp; done) | (simp; omega) | omega)).trans (row5_other HR7_1.out (by omega)); have z8_1 : w.heap.size + 1 < w8.heap.size := Nat.lt_of_lt_of_le (by first | (simp; done) | (simp; omega) | omega) hb8.size; have HR8_1 : Hid _ := R8_1; clear R8_1; have R8_2 := (hb8.block (w.heap.size + 1 + 1) (by first | (simp; done) | (simp; omega) | omega)).trans (row5_other HR7_2.out (by omega)); have z8_2 : w.heap.size + 1 + 1 < w8.heap.size := Nat.lt_of_lt_of_le (by first | (simp; done) | (simp; omega) | omega) hb8.size; have c8_2_0 := rowcell R8_2 0; have c8_2_1 := rowcell R8_2 1; have c8_2_2 := rowcell R8_2 2; have c8_2_3 := rowcell R8_2 3; have c8_2_4 := rowcell R8_2 4; have c8_2_5 := rowcell R8_2 5; simp only [List.getElem?_toArray, List.getElem?_cons_zero, List.getElem?_cons_succ] at c8_2_0 c8_2_1 c8_2_2 c8_2_3 c8_2_4 c8_2_5; have HR8_2 : Hid _ := R8_2; clear R8_2; have R8_3 := (hb8.block (w3.heap.size) (by first | (simp; done) | (simp; omega) | omega)).trans (row5_other HR7_3.out (by omega)); have z8_3 : w3.heap.size < w8.heap.size := Nat.lt_of_lt_of_le (by first | (simp; done) | (simp; omega) | omega) hb8.size; have HR8_3 : Hid _ := R8_3; clear R8_3; have R8_4 := (hb8.block (n) (by first | (simp; done) | (simp; omega) | omega)).trans (row5_other HR7_4.out (by omega)); have z8_4 : n < w8.heap.size := Nat.lt_of_lt_of_le (by first | (simp; done) | (simp; omega) | omega) hb8.size; have HR8_4 : Hid _ := R8_4; clear R8_4; have R8_5 := (hb8.block (w6.heap.size) (by first | (simp; done) | (simp; omega) | omega)).trans (row5 HR7_5.out); have z8_5 : w6.heap.size < w8.heap.size := Nat.lt_of_lt_of_le (by first | (simp; done) | (simp; omega) | omega) hb8.size; have HR8_5 : Hid _ := R8_5; clear R8_5; have HB8 : Hid (Below _ _ _) := hb8; clear hb8; have m2 := rowfree HR8_2.out))
    refine bodyPost_ret (v := .tuple #[.agg #[.int .i64 K, .bool B, .int .i64 S, .int .u64 H, .int .u64 L, .bool T], .nilIface]) (by simp [results, Tryz.results35, go_sem, c8_2_0, c8_2_1, c8_2_2, c8_2_3, c8_2_4, c8_2_5, m2, z8_2]; done) rfl (hQ.out _ _ ⟨rfl, ?_⟩)
    exact cset6 (cthen (cset5 (cthen (cmore (cthen (HBY.out) HB6.out) _) HB7.out) (by omega)) HB8.out) (by omega)
set_option maxHeartbeats 8000000 in
theorem freals_stay_diff (ng : Bool) (sg : Int) (hg lg : Nat) (nl : Bool) (sl : Int) (hl ll : Nat) (zz D E : Int) (kk : Nat) (a0 a1 a2 a3 a4 y0 y1 y2 y3 y4 p0 p1 p2 p3 p4 : Nat) (m0 m1 m2 m3 m4 : Nat) (r0 r1 r2 r3 r4 o o2 : Nat) (uu vv sc : Int) (k : Nat) (t : Bool) (K : Int) (B : Bool) (S : Int) (H L : Nat) (T : Bool)
    (k0 : ∀ w, Calls Tryz.prog 62 #[exV 1 ng sg hg lg false, exV 1 nl sl hl ll false] w fun e w' => e = .returned (.int .i64 zz) ∧ Below w.heap.size w w')
    (hz : decide (zz < 0) = false)
    (k1 : ∀ w, Calls Tryz.prog 63 #[.agg #[.int .u64 hg, .int .u64 lg], .int .i64 191] w fun e w' => e = .returned (.agg #[.int .u64 a0, .int .u64 a1, .int .u64 a2, .int .u64 a3, .int .u64 a4]) ∧ Below w.heap.size w w')
    (q1 : IntKind.i64.wrap (sg - sl) = D) (q2 : IntKind.i64.wrap (191 - D) = E) (q3 : (if E < 0 then 0 else E) = (kk : Int))
    (k2 : ∀ w, Calls Tryz.prog 63 #[.agg #[.int .u64 hl, .int .u64 ll], .int .i64 kk] w fun e w' => e = .returned (.agg #[.int .u64 y0, .int .u64 y1, .int .u64 y2, .int .u64 y3, .int .u64 y4]) ∧ Below w.heap.size w w')
    (k3 : ∀ w, Calls Tryz.prog 65 #[.agg #[.int .u64 a0, .int .u64 a1, .int .u64 a2, .int .u64 a3, .int .u64 a4], .agg #[.int .u64 y0, .int .u64 y1, .int .u64 y2, .int .u64 y3, .int .u64 y4]] w fun e w' => e = .returned (.agg #[.int .u64 p0, .int .u64 p1, .int .u64 p2, .int .u64 p3, .int .u64 p4]) ∧ Below w.heap.size w w')
    (hs : (ng == nl) = false)
    (k4 : ∀ w, Calls Tryz.prog 66 #[.agg #[.int .u64 a0, .int .u64 a1, .int .u64 a2, .int .u64 a3, .int .u64 a4], .agg #[.int .u64 y0, .int .u64 y1, .int .u64 y2, .int .u64 y3, .int .u64 y4]] w fun e w' => e = .returned (.agg #[.int .u64 m0, .int .u64 m1, .int .u64 m2, .int .u64 m3, .int .u64 m4]) ∧ Below w.heap.size w w')
    (h0 : (decide ((m0 : Int) = 0) && decide ((m1 : Int) = 0) && decide ((m2 : Int) = 0) && decide ((m3 : Int) = 0) && decide ((m4 : Int) = 0)) = false)
    (k5 : ∀ w, Calls Tryz.prog 67 #[.agg #[.int .u64 m0, .int .u64 m1, .int .u64 m2, .int .u64 m3, .int .u64 m4]] w fun e w' => e = .returned (.tuple #[.agg #[.int .u64 r0, .int .u64 r1, .int .u64 r2, .int .u64 r3, .int .u64 r4], .int .i64 k]) ∧ Below w.heap.size w w')
    (q4 : IntKind.i64.wrap (sg + 1) = uu) (q5 : IntKind.i64.wrap (uu - (k : Int)) = vv) (q8 : IntKind.i64.wrap (vv - 127) = sc) (q6 : bits BinOp.or IntKind.u64 (r2 : Int) (r1 : Int) = (o : Int)) (q9 : bits BinOp.or IntKind.u64 (o : Int) (r0 : Int) = (o2 : Int)) (q7 : ((o2 : Int) != 0) = t)
    (k6 : ∀ w, Calls Tryz.prog 50 #[.bool ng, .int .u64 r4, .int .u64 r3, .int .i64 sc, .bool t] w fun e w' => e = .returned (.tuple #[exV K B S H L T, .nilIface]) ∧ Below w.heap.size w w') (w : World) :
    Calls Tryz.prog 35 #[exV 1 ng sg hg lg false, exV 1 nl sl hl ll false] w fun e w' => e = .returned (.tuple #[exV K B S H L T, .nilIface]) ∧ Below w.heap.size w w' := by
  have dg := fdigits_any 1 ng sg hg lg false
  have dl := fdigits_any 1 nl sl hl ll false
  unfold exV at *
  have heq := eql5_words m0 m1 m2 m3 m4
  rw [h0] at heq
  have v0 : IntKind.i64.wrap 0 = 0 := rfl
  have v1 : IntKind.i64.wrap 1 = 1 := rfl
  have v2 : IntKind.i64.wrap 2 = 2 := rfl
  have v3 : IntKind.i64.wrap 3 = 3 := rfl
  have v4 : IntKind.i64.wrap 4 = 4 := rfl
  refine cps fun Q hQ => ?_
  go_enter Tryz.func35, Tryz.ntmps35
  go_upto_region 3 with (go_at_call 62; go_must (refine (k0 _).mono ?_); rintro e w1 ⟨rfl, hb1⟩; have R1_0 := (hb1.block (w.heap.size) (by first | (simp; done) | (simp; omega) | omega)).trans ((Below.heap_alloc _ _ _ (by first | (simp; done) | (simp; omega) | omega)).trans ((Below.heap_alloc _ _ _ (by first | (simp; done) | (simp; omega) | omega)).trans (rownew' _ _ _ _ (by simp)))); have z1_0 : w.heap.size < w1.heap.size := Nat.lt_of_lt_of_le (by first | (simp; done) | (simp; omega) | omega) hb1.size; have c1_0_0 := rowcell R1_0 0; have c1_0_1 := rowcell R1_0 1; have c1_0_2 := rowcell R1_0 2; have c1_0_3 := rowcell R1_0 3; have c1_0_4 := rowcell R1_0 4; have c1_0_5 := rowcell R1_0 5; simp only [List.getElem?_toArray, List.getElem?_cons_zero, List.getElem?_cons_succ] at c1_0_0 c1_0_1 c1_0_2 c1_0_3 c1_0_4 c1_0_5; have HR1_0 : Hid _ := R1_0; clear R1_0; have R1_1 := (hb1.block (w.heap.size + 1) (by first | (simp; done) | (simp; omega) | omega)).trans ((Below.heap_alloc _ _ _ (by first | (simp; done) | (simp; omega) | omega)).trans (rownew' _ _ _ _ (by simp))); have z1_1 : w.heap.size + 1 < w1.heap.size := Nat.lt_of_lt_of_le (by first | (simp; done) | (simp; omega) | omega) hb1.size; have c1_1_0 := rowcell R1_1 0; have c1_1_1 := rowcell R1_1 1; have c1_1_2 := rowcell R1_1 2; have c1_1_3 := rowcell R1_1 3; have c1_1_4 := rowcell R1_1 4; have c1_1_5 := rowcell R1_1 5; simp only [List.getElem?_toArray, List.getElem?_cons_zero, List.getElem?_cons_succ] at c1_1_0 c1_1_1 c1_1_2 c1_1_3 c1_1_4 c1_1_5; have HR1_1 : Hid _ := R1_1; clear R1_1; have R1_2 := (hb1.block (w.heap.size + 1 + 1) (by first | (simp; done) | (simp; omega) | omega)).trans (rownew' _ _ _ _ (by simp)); have z1_2 : w.heap.size + 1 + 1 < w1.heap.size := Nat.lt_of_lt_of_le (by first | (simp; done) | (simp; omega) | omega) hb1.size; have HR1_2 : Hid _ := R1_2; clear R1_2; have HB1 : Hid (Below _ _ _) := hb1; clear hb1; have fr0 := rowfree HR1_0.out; have fr1 := rowfree HR1_1.out; have fr2 := rowfree HR1_2.out)
  have HBW : Hid (Below w.heap.size w w1) := cthen (cmore (cmore (cmore (Below.refl _ _) _) _) _) HB1.out
  clear c1_0_0 c1_0_1 c1_0_2 c1_0_3 c1_0_4 c1_0_5 c1_1_0 c1_1_1 c1_1_2 c1_1_3 c1_1_4 c1_1_5 fr0 fr1 fr2
  have x0_ := rowcell HR1_0.out 0
  have x1_ := rowcell HR1_0.out 1
  have x2_ := rowcell HR1_0.out 2
  have x3_ := rowcell HR1_0.out 3
  have x4_ := rowcell HR1_0.out 4
  have x5_ := rowcell HR1_0.out 5
  simp only [List.getElem?_toArray, List.getElem?_cons_zero, List.getElem?_cons_succ] at x0_ x1_ x2_ x3_ x4_ x5_
  go_upto_region 4 with (first
    | (go_at_call 63; have chk := HB2; go_must (refine (k1 _).mono ?_); rintro e w3 ⟨rfl, hb3⟩; have R3_0 := (hb3.block (w.heap.size) (by first | (simp; done) | (simp; omega) | omega)).trans HR2_0.out; have z3_0 : w.heap.size < w3.heap.size := Nat.lt_of_lt_of_le (by first | (simp; done) | (simp; omega) | omega) hb3.size; have HR3_0 : Hid _ := R3_0; clear R3_0; have R3_1 := (hb3.block (w.heap.size + 1) (by first | (simp; done) | (simp; omega) | omega)).trans HR2_1.out; have z3_1 : w.heap.size + 1 < w3.heap.size := Nat.lt_of_lt_of_le (by first | (simp; done) | (simp; omega) | omega) hb3.size; have HR3_1 : Hid _ := R3_1; clear R3_1; have R3_2 := (hb3.block (w.heap.size + 1 + 1) (by first | (simp; done) | (simp; omega) | omega)).trans HR2_2.out; have z3_2 : w.heap.size + 1 + 1 < w3.heap.size := Nat.lt_of_lt_of_le (by first | (simp; done) | (simp; omega) | omega) hb3.size; have HR3_2 : Hid _ := R3_2; clear R3_2; have HB3 : Hid (Below _ _ _) := hb3; clear hb3)
    | (go_at_call 64; go_must (refine (dg _).mono ?_); rintro e w2 ⟨rfl, hb2⟩; have R2_0 := (hb2.block (w.heap.size) (by first | (simp; done) | (simp; omega) | omega)).trans HR1_0.out; have z2_0 : w.heap.size < w2.heap.size := Nat.lt_of_lt_of_le (by first | (simp; done) | (simp; omega) | omega) hb2.size; have HR2_0 : Hid _ := R2_0; clear R2_0; have R2_1 := (hb2.block (w.heap.size + 1) (by first | (simp; done) | (simp; omega) | omega)).trans HR1_1.out; have z2_1 : w.heap.size + 1 < w2.heap.size := Nat.lt_of_lt_of_le (by first | (simp; done) | (simp; omega) | omega) hb2.size; have HR2_1 : Hid _ := R2_1; clear R2_1; have R2_2 := (hb2.block (w.heap.size + 1 + 1) (by first | (simp; done) | (simp; omega) | omega)).trans HR1_2.out; have z2_2 : w.heap.size + 1 + 1 < w2.heap.size := Nat.lt_of_lt_of_le (by first | (simp; done) | (simp; omega) | omega) hb2.size; have HR2_2 : Hid _ := R2_2; clear R2_2; have HB2 : Hid (Below _ _ _) := hb2; clear hb2))
  clear x0_ x1_ x2_ x3_ x4_ x5_
  generalize hw4 : World.alloc w3 _ = w4
  have HR4_0 := (show Hid _ from (by rw [← hw4]; exact (Below.heap_alloc _ _ _ (by omega)).trans HR3_0.out : w4.heap[w.heap.size]? = some (.cells #[.int .i64 1, .bool ng, .int .i64 sg, .int .u64 hg, .int .u64 lg, .bool false] 39 (0, 0))))
  have HR4_1 := (show Hid _ from (by rw [← hw4]; exact (Below.heap_alloc _ _ _ (by omega)).trans HR3_1.out : w4.heap[w.heap.size + 1]? = some (.cells #[.int .i64 1, .bool nl, .int .i64 sl, .int .u64 hl, .int .u64 ll, .bool false] 39 (0, 0))))
  have HR4_2 := (show Hid _ from (by rw [← hw4]; exact (Below.heap_alloc _ _ _ (by omega)).trans HR3_2.out : w4.heap[w.heap.size + 1 + 1]? = some (.cells #[.int .i64 0, .bool false, .int .i64 0, .int .u64 0, .int .u64 0, .bool false] 39 (0, 0))))
  have HR4_3 := (show Hid _ from (by rw [← hw4]; exact rownew _ _ _ : w4.heap[w3.heap.size]? = some (.cells #[.int .u64 a0, .int .u64 a1, .int .u64 a2, .int .u64 a3, .int .u64 a4] 104 (0, 0))))
  have HBX : Hid (Below w.heap.size w w4) := by show Below _ _ _; rw [← hw4]; exact cmore (cthen (cthen (HBW.out) HB2.out) HB3.out) _
  clear hw4
  have y4_0 : w.heap.size < w4.heap.size := rowlt HR4_0.out
  have y4_1 : w.heap.size + 1 < w4.heap.size := rowlt HR4_1.out
  have y4_2 : w.heap.size + 1 + 1 < w4.heap.size := rowlt HR4_2.out
  have y4_3 : w3.heap.size < w4.heap.size := rowlt HR4_3.out
  have cls : ∀ V, Below w4.heap.size w4 V → V.cell? ⟨w.heap.size, 2, none⟩ = some (.int .i64 sg) ∧ V.cell? ⟨w.heap.size + 1, 0, none⟩ = some (.int .i64 1) ∧ V.cell? ⟨w.heap.size + 1, 1, none⟩ = some (.bool nl) ∧ V.cell? ⟨w.heap.size + 1, 2, none⟩ = some (.int .i64 sl) ∧ V.cell? ⟨w.heap.size + 1, 3, none⟩ = some (.int .u64 hl) ∧ V.cell? ⟨w.heap.size + 1, 4, none⟩ = some (.int .u64 ll) ∧ V.cell? ⟨w.heap.size + 1, 5, none⟩ = some (.bool false) := fun V hV => by
    have q0 := (hV.block (w.heap.size) y4_0).trans HR4_0.out
    have q1 := (hV.block (w.heap.size + 1) y4_1).trans HR4_1.out
    exact ⟨rowcell q0 2, rowcell q1 0, rowcell q1 1, rowcell q1 2, rowcell q1 3, rowcell q1 4, rowcell q1 5⟩
  have B4 : Below w4.heap.size w4 w4 := Below.refl _ _
  go_cut [7] from 19 (fun s7 wx => ∃ n : Nat, s7 = .pointer (some ⟨n, 0, none⟩) ∧ Hid (Below w4.heap.size w4 wx) ∧ w4.heap.size ≤ n ∧ Hid (wx.heap[n]? = some (.cells #[.int .u64 y0, .int .u64 y1, .int .u64 y2, .int .u64 y3, .int .u64 y4] 104 (0, 0))))
  case first =>
    refine wpC_region (fun V => V.cell? ⟨w.heap.size, 2, none⟩ = some (.int .i64 sg) ∧ V.cell? ⟨w.heap.size + 1, 0, none⟩ = some (.int .i64 1) ∧ V.cell? ⟨w.heap.size + 1, 1, none⟩ = some (.bool nl) ∧ V.cell? ⟨w.heap.size + 1, 2, none⟩ = some (.int .i64 sl) ∧ V.cell? ⟨w.heap.size + 1, 3, none⟩ = some (.int .u64 hl) ∧ V.cell? ⟨w.heap.size + 1, 4, none⟩ = some (.int .u64 ll) ∧ V.cell? ⟨w.heap.size + 1, 5, none⟩ = some (.bool false)) (by kernel_rfl) ?_
    refine wpC_take 0 (v := ?_) rfl (by kernel_rfl) (fun _ _ _ h => h) (by kernel_rfl) ?_ ?_; rotate_left; · (intro wC hC; obtain ⟨d0, d1, d2, d3, d4, d5, d6⟩ := hC; go_simp <;> with_reducible rfl)
    refine wpC_take 2 (v := ?_) rfl (by kernel_rfl) (fun _ _ _ h => h) (by kernel_rfl) ?_ ?_; rotate_left; · (intro wC hC; obtain ⟨d0, d1, d2, d3, d4, d5, d6⟩ := hC; go_simp <;> with_reducible rfl)
    refine wpC_take 3 (v := ?_) rfl (by kernel_rfl) (fun _ _ _ h => h) (by kernel_rfl) ?_ ?_; rotate_left; · (intro wC hC; obtain ⟨d0, d1, d2, d3, d4, d5, d6⟩ := hC; go_simp <;> with_reducible rfl)
    refine wpC_take 4 (v := ?_) rfl (by kernel_rfl) (fun _ _ _ h => h) (by kernel_rfl) ?_ ?_; rotate_left; · (intro wC hC; obtain ⟨d0, d1, d2, d3, d4, d5, d6⟩ := hC; go_simp <;> with_reducible rfl)
    refine wpC_take 5 (v := ?_) rfl (by kernel_rfl) (fun _ _ _ h => h) (by kernel_rfl) ?_ ?_; rotate_left; · (intro wC hC; obtain ⟨d0, d1, d2, d3, d4, d5, d6⟩ := hC; go_simp <;> with_reducible rfl)
    refine wpC_take 6 (v := ?_) rfl (by kernel_rfl) (fun _ _ _ h => h) (by kernel_rfl) ?_ ?_; rotate_left; · (intro wC hC; obtain ⟨d0, d1, d2, d3, d4, d5, d6⟩ := hC; go_simp <;> with_reducible rfl)
    refine wpC_take 7 (v := ?_) rfl (by kernel_rfl) (fun _ _ _ h => h) (by kernel_rfl) ?_ ?_; rotate_left; · (intro wC hC; obtain ⟨d0, d1, d2, d3, d4, d5, d6⟩ := hC; go_simp <;> with_reducible rfl)
    refine wpC_take 8 (v := ?_) rfl (by kernel_rfl) (fun _ _ _ h => h) (by kernel_rfl) ?_ ?_; rotate_left; · (intro wC hC; obtain ⟨d0, d1, d2, d3, d4, d5, d6⟩ := hC; go_simp <;> with_reducible rfl)
    refine wpC_two 1 10 rfl rfl (by kernel_rfl) (by kernel_rfl) (by kernel_rfl) (cls _ (bdrew B4)) (fun K hK => ?_) (fun K hK => ?_)
    · skip
      go_simp
      go_wp2_with ((go_at_call 64; refine (dl _).mono ?_; rintro e w5 ⟨rfl, hb5⟩; have B5 := bthen (bdrew B4) hb5))
      try (refine hK _ _ ?_; clear hK K)
      refine wpC_two 9 10 rfl rfl (by kernel_rfl) (by kernel_rfl) (by kernel_rfl) (cls _ B5) (fun K hK => ?_) (fun K hK => ?_)
      · skip
        go_simp
        go_wp2_with ((go_at_call 63; refine (k2 _).mono ?_; rintro e w6 ⟨rfl, hb6⟩; have B6 := bthen (B5) hb6))
        try (refine hK _ _ ?_; clear hK K)
        refine wpC_step 10 rfl (by kernel_rfl) (by kernel_rfl) (cls _ B6) (fun K hK => ?_)
        go_simp
        try (refine hK _ _ ?_; clear hK K)
        refine wpC_step 11 rfl (by kernel_rfl) (by kernel_rfl) (cls _ (bmore B6 _)) (fun K hK => ?_)
        go_simp
        try (refine hK _ _ ?_; clear hK K)
        refine wpC_done (by kernel_rfl) (cls _ (bmore B6 _)) ?_
        go_wp2_with fail
        go_meet
        case rel => exact ⟨_, rfl, bmore B6 _, B6.size, rownew _ _ _⟩
      · skip
        go_simp
        try (refine hK _ _ ?_; clear hK K)
        refine wpC_step 9 rfl (by kernel_rfl) (by kernel_rfl) (cls _ (bmore B5 _)) (fun K hK => ?_)
        go_simp
        go_wp2_with ((go_at_call 63; refine (k2 _).mono ?_; rintro e w6 ⟨rfl, hb6⟩; have B6 := bthen (bmore B5 _) hb6; have R6 := (hb6.block (w5.heap.size) (by simp)).trans (rownew _ _ _); have rf := rowfree R6; have rl := rowlt R6; have rc0 := rowcell R6 0; have rc1 := rowcell R6 1; have rc2 := rowcell R6 2; have rc3 := rowcell R6 3; have rc4 := rowcell R6 4; simp only [List.getElem?_toArray, List.getElem?_cons_zero, List.getElem?_cons_succ] at rc0 rc1 rc2 rc3 rc4))
        try (refine hK _ _ ?_; clear hK K)
        have y5 := B5.size
        refine wpC_step 11 rfl (by kernel_rfl) (by kernel_rfl) (cls _ B6) (fun K hK => ?_)
        go_simp
        try (refine hK _ _ ?_; clear hK K)
        refine wpC_done (by kernel_rfl) (cls _ (cset5 B6 y5)) ?_
        go_wp2_with fail
        go_meet
        case rel => exact ⟨_, rfl, cset5 B6 y5, y5, row5 R6⟩
    · skip
      go_simp
      try (refine hK _ _ ?_; clear hK K)
      refine wpC_step 1 rfl (by kernel_rfl) (by kernel_rfl) (cls _ (bmore (bdrew B4) _)) (fun K hK => ?_)
      go_simp
      go_wp2_with ((go_at_call 64; refine (dl _).mono ?_; rintro e w5 ⟨rfl, hb5⟩; have B5 := bthen (bmore (bdrew B4) _) hb5; have R5 := (hb5.block (w4.heap.size) (by simp)).trans (rownew _ _ _); have y5 := rowlt R5))
      try (refine hK _ _ ?_; clear hK K)
      refine wpC_step 9 rfl (by kernel_rfl) (by kernel_rfl) (cls _ B5) (fun K hK => ?_)
      go_simp
      go_wp2_with ((go_at_call 63; refine (k2 _).mono ?_; rintro e w6 ⟨rfl, hb6⟩; have B6 := bthen (B5) hb6; have R6 := (hb6.block (w4.heap.size) y5).trans (R5); have rf := rowfree R6; have rl := rowlt R6; have rc0 := rowcell R6 0; have rc1 := rowcell R6 1; have rc2 := rowcell R6 2; have rc3 := rowcell R6 3; have rc4 := rowcell R6 4; simp only [List.getElem?_toArray, List.getElem?_cons_zero, List.getElem?_cons_succ] at rc0 rc1 rc2 rc3 rc4))
      try (refine hK _ _ ?_; clear hK K)
      refine wpC_step 11 rfl (by kernel_rfl) (by kernel_rfl) (cls _ B6) (fun K hK => ?_)
      go_simp
      try (refine hK _ _ ?_; clear hK K)
      refine wpC_done (by kernel_rfl) (cls _ (cset5 B6 (Nat.le_refl _))) ?_
      go_wp2_with fail
      go_meet
      case rel => exact ⟨_, rfl, cset5 B6 (Nat.le_refl _), Nat.le_refl _, row5 R6⟩
  case rest =>
    obtain ⟨n, rfl, hbx, hn, hrx⟩ := hcut
    have HB4 : Hid (Below w4.heap.size w4 wc) := hbx.out
    have HR5_0 := (show Hid _ from (hbx.out.block (w.heap.size) y4_0).trans HR4_0.out)
    have HR5_1 := (show Hid _ from (hbx.out.block (w.heap.size + 1) y4_1).trans HR4_1.out)
    have HR5_2 := (show Hid _ from (hbx.out.block (w.heap.size + 1 + 1) y4_2).trans HR4_2.out)
    have HR5_3 := (show Hid _ from (hbx.out.block (w3.heap.size) y4_3).trans HR4_3.out)
    have HR5_4 := hrx
    have z5_0 : w.heap.size < wc.heap.size := rowlt HR5_0.out
    have z5_1 : w.heap.size + 1 < wc.heap.size := rowlt HR5_1.out
    have z5_2 : w.heap.size + 1 + 1 < wc.heap.size := rowlt HR5_2.out
    have z5_3 : w3.heap.size < wc.heap.size := rowlt HR5_3.out
    have z5_4 : n < wc.heap.size := rowlt HR5_4.out
    have y5_3 : w.heap.size + 1 + 1 < w3.heap.size := by omega
    have HBY : Hid (Below w.heap.size w wc) := cthen HBX.out HB4.out
    clear hbx hrx cls B4 HBX HB4
    have k3_0 := rowcell HR5_3.out 0
    have k3_1 := rowcell HR5_3.out 1
    have k3_2 := rowcell HR5_3.out 2
    have k3_3 := rowcell HR5_3.out 3
    have k3_4 := rowcell HR5_3.out 4
    have k4_0 := rowcell HR5_4.out 0
    have k4_1 := rowcell HR5_4.out 1
    have k4_2 := rowcell HR5_4.out 2
    have k4_3 := rowcell HR5_4.out 3
    have k4_4 := rowcell HR5_4.out 4
    have k0_1 := rowcell HR5_0.out 1
    have k1_1 := rowcell HR5_1.out 1
    simp only [List.getElem?_toArray, List.getElem?_cons_zero, List.getElem?_cons_succ] at k0_1 k1_1 k3_0 k3_1 k3_2 k3_3 k3_4 k4_0 k4_1 k4_2 k4_3 k4_4
    go_wp2_with (first
      | (go_at_call 65; go_must (refine (k3 _).mono ?_); rintro e w6 ⟨rfl, hb6⟩; have R6_0 := (hb6.block (w.heap.size) (by first | (simp; done) | (simp; omega) | omega)).trans HR5_0.out; have z6_0 : w.heap.size < w6.heap.size := Nat.lt_of_lt_of_le (by first | (simp; done) | (simp; omega) | omega) hb6.size; have c6_0_1 := rowcell R6_0 1; simp only [List.getElem?_toArray, List.getElem?_cons_zero, List.getElem?_cons_succ] at c6_0_1; have HR6_0 : Hid _ := R6_0; clear R6_0; have R6_1 := (hb6.block (w.heap.size + 1) (by first | (simp; done) | (simp; omega) | omega)).trans HR5_1.out; have z6_1 : w.heap.size + 1 < w6.heap.size := Nat.lt_of_lt_of_le (by first | (simp; done) | (simp; omega) | omega) hb6.size; have c6_1_1 := rowcell R6_1 1; simp only [List.getElem?_toArray, List.getElem?_cons_zero, List.getElem?_cons_succ] at c6_1_1; have HR6_1 : Hid _ := R6_1; clear R6_1; have R6_2 := (hb6.block (w.heap.size + 1 + 1) (by first | (simp; done) | (simp; omega) | omega)).trans HR5_2.out; have z6_2 : w.heap.size + 1 + 1 < w6.heap.size := Nat.lt_of_lt_of_le (by first | (simp; done) | (simp; omega) | omega) hb6.size; have HR6_2 : Hid _ := R6_2; clear R6_2; have R6_3 := (hb6.block (w3.heap.size) (by first | (simp; done) | (simp; omega) | omega)).trans HR5_3.out; have z6_3 : w3.heap.size < w6.heap.size := Nat.lt_of_lt_of_le (by first | (simp; done) | (simp; omega) | omega) hb6.size; have c6_3_0 := rowcell R6_3 0; have c6_3_1 := rowcell R6_3 1; have c6_3_2 := rowcell R6_3 2; have c6_3_3 := rowcell R6_3 3; have c6_3_4 := rowcell R6_3 4; simp only [List.getElem?_toArray, List.getElem?_cons_zero, List.getElem?_cons_succ] at c6_3_0 c6_3_1 c6_3_2 c6_3_3 c6_3_4; have HR6_3 : Hid _ := R6_3; clear R6_3; have R6_4 := (hb6.block (n) (by first | (simp; done) | (simp; omega) | omega)).trans HR5_4.out; have z6_4 : n < w6.heap.size := Nat.lt_of_lt_of_le (by first | (simp; done) | (simp; omega) | omega) hb6.size; have c6_4_0 := rowcell R6_4 0; have c6_4_1 := rowcell R6_4 1; have c6_4_2 := rowcell R6_4 2; have c6_4_3 := rowcell R6_4 3; have c6_4_4 := rowcell R6_4 4; simp only [List.getElem?_toArray, List.getElem?_cons_zero, List.getElem?_cons_succ] at c6_4_0 c6_4_1 c6_4_2 c6_4_3 c6_4_4; have HR6_4 : Hid _ := R6_4; clear R6_4; have HB6 : Hid (Below _ _ _) := hb6; clear hb6)
      | (go_at_call 66; go_must (refine (k4 _).mono ?_); rintro e w7 ⟨rfl, hb7⟩; have R7_0 := (hb7.block (w.heap.size) (by first | (simp; done) | (simp; omega) | omega)).trans ((Below.heap_alloc _ _ _ (by first | (simp; done) | (simp; omega) | omega)).trans HR6_0.out); have z7_0 : w.heap.size < w7.heap.size := Nat.lt_of_lt_of_le (by first | (simp; done) | (simp; omega) | omega) hb7.size; have HR7_0 : Hid _ := R7_0; clear R7_0; have R7_1 := (hb7.block (w.heap.size + 1) (by first | (simp; done) | (simp; omega) | omega)).trans ((Below.heap_alloc _ _ _ (by first | (simp; done) | (simp; omega) | omega)).trans HR6_1.out); have z7_1 : w.heap.size + 1 < w7.heap.size := Nat.lt_of_lt_of_le (by first | (simp; done) | (simp; omega) | omega) hb7.size; have HR7_1 : Hid _ := R7_1; clear R7_1; have R7_2 := (hb7.block (w.heap.size + 1 + 1) (by first | (simp; done) | (simp; omega) | omega)).trans ((Below.heap_alloc _ _ _ (by first | (simp; done) | (simp; omega) | omega)).trans HR6_2.out); have z7_2 : w.heap.size + 1 + 1 < w7.heap.size := Nat.lt_of_lt_of_le (by first | (simp; done) | (simp; omega) | omega) hb7.size; have HR7_2 : Hid _ := R7_2; clear R7_2; have R7_3 := (hb7.block (w3.heap.size) (by first | (simp; done) | (simp; omega) | omega)).trans ((Below.heap_alloc _ _ _ (by first | (simp; done) | (simp; omega) | omega)).trans HR6_3.out); have z7_3 : w3.heap.size < w7.heap.size := Nat.lt_of_lt_of_le (by first | (simp; done) | (simp; omega) | omega) hb7.size; have HR7_3 : Hid _ := R7_3; clear R7_3; have R7_4 := (hb7.block (n) (by first | (simp; done) | (simp; omega) | omega)).trans ((Below.heap_alloc _ _ _ (by first | (simp; done) | (simp; omega) | omega)).trans HR6_4.out); have z7_4 : n < w7.heap.size := Nat.lt_of_lt_of_le (by first | (simp; done) | (simp; omega) | omega) hb7.size; have HR7_4 : Hid _ := R7_4; clear R7_4; have R7_5 := (hb7.block (w6.heap.size) (by first | (simp; done) | (simp; omega) | omega)).trans (rownew' _ _ _ _ (by simp)); have z7_5 : w6.heap.size < w7.heap.size := Nat.lt_of_lt_of_le (by first | (simp; done) | (simp; omega) | omega) hb7.size; have c7_5_0 := rowcell R7_5 0; have c7_5_1 := rowcell R7_5 1; have c7_5_2 := rowcell R7_5 2; have c7_5_3 := rowcell R7_5 3; have c7_5_4 := rowcell R7_5 4; simp only [List.getElem?_toArray, List.getElem?_cons_zero, List.getElem?_cons_succ] at c7_5_0 c7_5_1 c7_5_2 c7_5_3 c7_5_4; have HR7_5 : Hid _ := R7_5; clear R7_5; have HB7 : Hid (Below _ _ _) := hb7; clear hb7; have f5 := rowfree HR7_5.out; have f2 := rowfree HR7_2.out)
      | (go_at_call 67; go_must (refine (k5 _).mono ?_); rintro e w8 ⟨rfl, hb8⟩; have R8_0 := (hb8.block (w.heap.size) (by first | (simp; done) | (simp; omega) | omega)).trans (row5_other HR7_0.out (by omega)); have z8_0 : w.heap.size < w8.heap.size := Nat.lt_of_lt_of_le (by first | (simp; done) | (simp; omega) | omega) hb8.size; have c8_0_1 := rowcell R8_0 1; have c8_0_2 := rowcell R8_0 2; simp only [List.getElem?_toArray, List.getElem?_cons_zero, List.getElem?_cons_succ] at c8_0_1 c8_0_2; have HR8_0 : Hid _ := R8_0; clear R8_0; have R8_1 := (hb8.block (w.heap.size + 1) (by first | (simp; done) | (simp; omega) | omega)).trans (row5_other HR7_1.out (by omega)); have z8_1 : w.heap.size + 1 < w8.heap.size := Nat.lt_of_lt_of_le (by first | (simp; done) | (simp; omega) | omega) hb8.size; have HR8_1 : Hid _ := R8_1; clear R8_1; have R8_2 := (hb8.block (w.heap.size + 1 + 1) (by first | (simp; done) | (simp; omega) | omega)).trans (row5_other HR7_2.out (by omega)); have z8_2 : w.heap.size + 1 + 1 < w8.heap.size := Nat.lt_of_lt_of_le (by first | (simp; done) | (simp; omega) | omega) hb8.size; have HR8_2 : Hid _ := R8_2; clear R8_2; have R8_3 := (hb8.block (w3.heap.size) (by first | (simp; done) | (simp; omega) | omega)).trans (row5_other HR7_3.out (by omega)); have z8_3 : w3.heap.size < w8.heap.size := Nat.lt_of_lt_of_le (by first | (simp; done) | (simp; omega) | omega) hb8.size; have HR8_3 : Hid _ := R8_3; clear R8_3; have R8_4 := (hb8.block (n) (by first | (simp; done) | (simp; omega) | omega)).trans (row5_other HR7_4.out (by omega)); have z8_4 : n < w8.heap.size := Nat.lt_of_lt_of_le (by first | (simp; done) | (simp; omega) | omega) hb8.size; have HR8_4 : Hid _ := R8_4; clear R8_4; have R8_5 := (hb8.block (w6.heap.size) (by first | (simp; done) | (simp; omega) | omega)).trans (row5 HR7_5.out); have z8_5 : w6.heap.size < w8.heap.size := Nat.lt_of_lt_of_le (by first | (simp; done) | (simp; omega) | omega) hb8.size; have c8_5_0 := rowcell R8_5 0; have c8_5_1 := rowcell R8_5 1; have c8_5_2 := rowcell R8_5 2; have c8_5_3 := rowcell R8_5 3; have c8_5_4 := rowcell R8_5 4; simp only [List.getElem?_toArray, List.getElem?_cons_zero, List.getElem?_cons_succ] at c8_5_0 c8_5_1 c8_5_2 c8_5_3 c8_5_4; have HR8_5 : Hid _ := R8_5; clear R8_5; have HB8 : Hid (Below _ _ _) := hb8; clear hb8; have g5 := rowfree HR8_5.out; have g2 := rowfree HR8_2.out)
      | (go_at_call 50; go_must (refine (k6 _).mono ?_); rintro e w9 ⟨rfl, hb9⟩; have R9_0 := (hb9.block (w.heap.size) (by first | (simp; done) | (simp; omega) | omega)).trans (row5_other HR8_0.out (by omega)); have z9_0 : w.heap.size < w9.heap.size := Nat.lt_of_lt_of_le (by first | (simp; done) | (simp; omega) | omega) hb9.size; have HR9_0 : Hid _ := R9_0; clear R9_0; have R9_1 := (hb9.block (w.heap.size + 1) (by first | (simp; done) | (simp; omega) | omega)).trans (row5_other HR8_1.out (by omega)); have z9_1 : w.heap.size + 1 < w9.heap.size := Nat.lt_of_lt_of_le (by first | (simp; done) | (simp; omega) | omega) hb9.size; have HR9_1 : Hid _ := R9_1; clear R9_1; have R9_2 := (hb9.block (w.heap.size + 1 + 1) (by first | (simp; done) | (simp; omega) | omega)).trans (row5_other HR8_2.out (by omega)); have z9_2 : w.heap.size + 1 + 1 < w9.heap.size := Nat.lt_of_lt_of_le (by first | (simp; done) | (simp; omega) | omega) hb9.size; have c9_2_0 := rowcell R9_2 0; have c9_2_1 := rowcell R9_2 1; have c9_2_2 := rowcell R9_2 2; have c9_2_3 := rowcell R9_2 3; have c9_2_4 := rowcell R9_2 4; have c9_2_5 := rowcell R9_2 5; simp only [List.getElem?_toArray, List.getElem?_cons_zero, List.getElem?_cons_succ] at c9_2_0 c9_2_1 c9_2_2 c9_2_3 c9_2_4 c9_2_5; have HR9_2 : Hid _ := R9_2; clear R9_2; have R9_3 := (hb9.block (w3.heap.size) (by first | (simp; done) | (simp; omega) | omega)).trans (row5_other HR8_3.out (by omega)); have z9_3 : w3.heap.size < w9.heap.size := Nat.lt_of_lt_of_le (by first | (simp; done) | (simp; omega) | omega) hb9.size; have HR9_3 : Hid _ := R9_3; clear R9_3; have R9_4 := (hb9.block (n) (by first | (simp; done) | (simp; omega) | omega)).trans (row5_other HR8_4.out (by omega)); have z9_4 : n < w9.heap.size := Nat.lt_of_lt_of_le (by first | (simp; done) | (simp; omega) | omega) hb9.size; have HR9_4 : Hid _ := R9_4; clear R9_4; have R9_5 := (hb9.block (w6.heap.size) (by first | (simp; done) | (simp; omega) | omega)).trans (row5 HR8_5.out); have z9_5 : w6.heap.size < w9.heap.size := Nat.lt_of_lt_of_le (by first | (simp; done) | (simp; omega) | omega) hb9.size; have HR9_5 : Hid _ := R9_5; clear R9_5; have HB9 : Hid (Below _ _ _) := hb9; clear hb9; have m2 := rowfree HR9_2.out))
    refine bodyPost_ret (v := .tuple #[.agg #[.int .i64 K, .bool B, .int .i64 S, .int .u64 H, .int .u64 L, .bool T], .nilIface]) (by simp [results, Tryz.results35, go_sem, c9_2_0, c9_2_1, c9_2_2, c9_2_3, c9_2_4, c9_2_5, m2, z9_2]; done) rfl (hQ.out _ _ ⟨rfl, ?_⟩)
    exact cset6 (cthen (cset5 (cthen (cset5 (cthen (cmore (cthen (HBY.out) HB6.out) _) HB7.out) (by omega)) HB8.out) (by omega)) HB9.out) (by omega)
set_option maxHeartbeats 8000000 in
theorem freals_stay_zero (ng : Bool) (sg : Int) (hg lg : Nat) (nl : Bool) (sl : Int) (hl ll : Nat) (zz D E : Int) (kk : Nat) (a0 a1 a2 a3 a4 y0 y1 y2 y3 y4 p0 p1 p2 p3 p4 : Nat) (m0 m1 m2 m3 m4 : Nat)
    (k0 : ∀ w, Calls Tryz.prog 62 #[exV 1 ng sg hg lg false, exV 1 nl sl hl ll false] w fun e w' => e = .returned (.int .i64 zz) ∧ Below w.heap.size w w')
    (hz : decide (zz < 0) = false)
    (k1 : ∀ w, Calls Tryz.prog 63 #[.agg #[.int .u64 hg, .int .u64 lg], .int .i64 191] w fun e w' => e = .returned (.agg #[.int .u64 a0, .int .u64 a1, .int .u64 a2, .int .u64 a3, .int .u64 a4]) ∧ Below w.heap.size w w')
    (q1 : IntKind.i64.wrap (sg - sl) = D) (q2 : IntKind.i64.wrap (191 - D) = E) (q3 : (if E < 0 then 0 else E) = (kk : Int))
    (k2 : ∀ w, Calls Tryz.prog 63 #[.agg #[.int .u64 hl, .int .u64 ll], .int .i64 kk] w fun e w' => e = .returned (.agg #[.int .u64 y0, .int .u64 y1, .int .u64 y2, .int .u64 y3, .int .u64 y4]) ∧ Below w.heap.size w w')
    (k3 : ∀ w, Calls Tryz.prog 65 #[.agg #[.int .u64 a0, .int .u64 a1, .int .u64 a2, .int .u64 a3, .int .u64 a4], .agg #[.int .u64 y0, .int .u64 y1, .int .u64 y2, .int .u64 y3, .int .u64 y4]] w fun e w' => e = .returned (.agg #[.int .u64 p0, .int .u64 p1, .int .u64 p2, .int .u64 p3, .int .u64 p4]) ∧ Below w.heap.size w w')
    (hs : (ng == nl) = false)
    (k4 : ∀ w, Calls Tryz.prog 66 #[.agg #[.int .u64 a0, .int .u64 a1, .int .u64 a2, .int .u64 a3, .int .u64 a4], .agg #[.int .u64 y0, .int .u64 y1, .int .u64 y2, .int .u64 y3, .int .u64 y4]] w fun e w' => e = .returned (.agg #[.int .u64 m0, .int .u64 m1, .int .u64 m2, .int .u64 m3, .int .u64 m4]) ∧ Below w.heap.size w w')
    (h0 : (decide ((m0 : Int) = 0) && decide ((m1 : Int) = 0) && decide ((m2 : Int) = 0) && decide ((m3 : Int) = 0) && decide ((m4 : Int) = 0)) = true) (w : World) :
    Calls Tryz.prog 35 #[exV 1 ng sg hg lg false, exV 1 nl sl hl ll false] w fun e w' => e = .returned (.tuple #[exV 0 false 0 0 0 false, .nilIface]) ∧ Below w.heap.size w w' := by
  have dg := fdigits_any 1 ng sg hg lg false
  have dl := fdigits_any 1 nl sl hl ll false
  unfold exV at *
  rw [show ((0 : Nat) : Int) = 0 from rfl] at *
  have heq := eql5_words m0 m1 m2 m3 m4
  rw [h0] at heq
  have v0 : IntKind.i64.wrap 0 = 0 := rfl
  have v1 : IntKind.i64.wrap 1 = 1 := rfl
  have v2 : IntKind.i64.wrap 2 = 2 := rfl
  have v3 : IntKind.i64.wrap 3 = 3 := rfl
  have v4 : IntKind.i64.wrap 4 = 4 := rfl
  refine cps fun Q hQ => ?_
  go_enter Tryz.func35, Tryz.ntmps35
  go_upto_region 3 with (go_at_call 62; go_must (refine (k0 _).mono ?_); rintro e w1 ⟨rfl, hb1⟩; have R1_0 := (hb1.block (w.heap.size) (by first | (simp; done) | (simp; omega) | omega)).trans ((Below.heap_alloc _ _ _ (by first | (simp; done) | (simp; omega) | omega)).trans ((Below.heap_alloc _ _ _ (by first | (simp; done) | (simp; omega) | omega)).trans (rownew' _ _ _ _ (by simp)))); have z1_0 : w.heap.size < w1.heap.size := Nat.lt_of_lt_of_le (by first | (simp; done) | (simp; omega) | omega) hb1.size; have c1_0_0 := rowcell R1_0 0; have c1_0_1 := rowcell R1_0 1; have c1_0_2 := rowcell R1_0 2; have c1_0_3 := rowcell R1_0 3; have c1_0_4 := rowcell R1_0 4; have c1_0_5 := rowcell R1_0 5; simp only [List.getElem?_toArray, List.getElem?_cons_zero, List.getElem?_cons_succ] at c1_0_0 c1_0_1 c1_0_2 c1_0_3 c1_0_4 c1_0_5; have HR1_0 : Hid _ := R1_0; clear R1_0; have R1_1 := (hb1.block (w.heap.size + 1) (by first | (simp; done) | (simp; omega) | omega)).trans ((Below.heap_alloc _ _ _ (by first | (simp; done) | (simp; omega) | omega)).trans (rownew' _ _ _ _ (by simp))); have z1_1 : w.heap.size + 1 < w1.heap.size := Nat.lt_of_lt_of_le (by first | (simp; done) | (simp; omega) | omega) hb1.size; have c1_1_0 := rowcell R1_1 0; have c1_1_1 := rowcell R1_1 1; have c1_1_2 := rowcell R1_1 2; have c1_1_3 := rowcell R1_1 3; have c1_1_4 := rowcell R1_1 4; have c1_1_5 := rowcell R1_1 5; simp only [List.getElem?_toArray, List.getElem?_cons_zero, List.getElem?_cons_succ] at c1_1_0 c1_1_1 c1_1_2 c1_1_3 c1_1_4 c1_1_5; have HR1_1 : Hid _ := R1_1; clear R1_1; have R1_2 := (hb1.block (w.heap.size + 1 + 1) (by first | (simp; done) | (simp; omega) | omega)).trans (rownew' _ _ _ _ (by simp)); have z1_2 : w.heap.size + 1 + 1 < w1.heap.size := Nat.lt_of_lt_of_le (by first | (simp; done) | (simp; omega) | omega) hb1.size; have HR1_2 : Hid _ := R1_2; clear R1_2; have HB1 : Hid (Below _ _ _) := hb1; clear hb1; have fr0 := rowfree HR1_0.out; have fr1 := rowfree HR1_1.out; have fr2 := rowfree HR1_2.out)
  have HBW : Hid (Below w.heap.size w w1) := cthen (cmore (cmore (cmore (Below.refl _ _) _) _) _) HB1.out
  clear c1_0_0 c1_0_1 c1_0_2 c1_0_3 c1_0_4 c1_0_5 c1_1_0 c1_1_1 c1_1_2 c1_1_3 c1_1_4 c1_1_5 fr0 fr1 fr2
  have x0_ := rowcell HR1_0.out 0
  have x1_ := rowcell HR1_0.out 1
  have x2_ := rowcell HR1_0.out 2
  have x3_ := rowcell HR1_0.out 3
  have x4_ := rowcell HR1_0.out 4
  have x5_ := rowcell HR1_0.out 5
  simp only [List.getElem?_toArray, List.getElem?_cons_zero, List.getElem?_cons_succ] at x0_ x1_ x2_ x3_ x4_ x5_
  go_upto_region 4 with (first
    | (go_at_call 63; have chk := HB2; go_must (refine (k1 _).mono ?_); rintro e w3 ⟨rfl, hb3⟩; have R3_0 := (hb3.block (w.heap.size) (by first | (simp; done) | (simp; omega) | omega)).trans HR2_0.out; have z3_0 : w.heap.size < w3.heap.size := Nat.lt_of_lt_of_le (by first | (simp; done) | (simp; omega) | omega) hb3.size; have HR3_0 : Hid _ := R3_0; clear R3_0; have R3_1 := (hb3.block (w.heap.size + 1) (by first | (simp; done) | (simp; omega) | omega)).trans HR2_1.out; have z3_1 : w.heap.size + 1 < w3.heap.size := Nat.lt_of_lt_of_le (by first | (simp; done) | (simp; omega) | omega) hb3.size; have HR3_1 : Hid _ := R3_1; clear R3_1; have R3_2 := (hb3.block (w.heap.size + 1 + 1) (by first | (simp; done) | (simp; omega) | omega)).trans HR2_2.out; have z3_2 : w.heap.size + 1 + 1 < w3.heap.size := Nat.lt_of_lt_of_le (by first | (simp; done) | (simp; omega) | omega) hb3.size; have HR3_2 : Hid _ := R3_2; clear R3_2; have HB3 : Hid (Below _ _ _) := hb3; clear hb3)
    | (go_at_call 64; go_must (refine (dg _).mono ?_); rintro e w2 ⟨rfl, hb2⟩; have R2_0 := (hb2.block (w.heap.size) (by first | (simp; done) | (simp; omega) | omega)).trans HR1_0.out; have z2_0 : w.heap.size < w2.heap.size := Nat.lt_of_lt_of_le (by first | (simp; done) | (simp; omega) | omega) hb2.size; have HR2_0 : Hid _ := R2_0; clear R2_0; have R2_1 := (hb2.block (w.heap.size + 1) (by first | (simp; done) | (simp; omega) | omega)).trans HR1_1.out; have z2_1 : w.heap.size + 1 < w2.heap.size := Nat.lt_of_lt_of_le (by first | (simp; done) | (simp; omega) | omega) hb2.size; have HR2_1 : Hid _ := R2_1; clear R2_1; have R2_2 := (hb2.block (w.heap.size + 1 + 1) (by first | (simp; done) | (simp; omega) | omega)).trans HR1_2.out; have z2_2 : w.heap.size + 1 + 1 < w2.heap.size := Nat.lt_of_lt_of_le (by first | (simp; done) | (simp; omega) | omega) hb2.size; have HR2_2 : Hid _ := R2_2; clear R2_2; have HB2 : Hid (Below _ _ _) := hb2; clear hb2))
  clear x0_ x1_ x2_ x3_ x4_ x5_
  generalize hw4 : World.alloc w3 _ = w4
  have HR4_0 := (show Hid _ from (by rw [← hw4]; exact (Below.heap_alloc _ _ _ (by omega)).trans HR3_0.out : w4.heap[w.heap.size]? = some (.cells #[.int .i64 1, .bool ng, .int .i64 sg, .int .u64 hg, .int .u64 lg, .bool false] 39 (0, 0))))
  have HR4_1 := (show Hid _ from (by rw [← hw4]; exact (Below.heap_alloc _ _ _ (by omega)).trans HR3_1.out : w4.heap[w.heap.size + 1]? = some (.cells #[.int .i64 1, .bool nl, .int .i64 sl, .int .u64 hl, .int .u64 ll, .bool false] 39 (0, 0))))
  have HR4_2 := (show Hid _ from (by rw [← hw4]; exact (Below.heap_alloc _ _ _ (by omega)).trans HR3_2.out : w4.heap[w.heap.size + 1 + 1]? = some (.cells #[.int .i64 0, .bool false, .int .i64 0, .int .u64 0, .int .u64 0, .bool false] 39 (0, 0))))
  have HR4_3 := (show Hid _ from (by rw [← hw4]; exact rownew _ _ _ : w4.heap[w3.heap.size]? = some (.cells #[.int .u64 a0, .int .u64 a1, .int .u64 a2, .int .u64 a3, .int .u64 a4] 104 (0, 0))))
  have HBX : Hid (Below w.heap.size w w4) := by show Below _ _ _; rw [← hw4]; exact cmore (cthen (cthen (HBW.out) HB2.out) HB3.out) _
  clear hw4
  have y4_0 : w.heap.size < w4.heap.size := rowlt HR4_0.out
  have y4_1 : w.heap.size + 1 < w4.heap.size := rowlt HR4_1.out
  have y4_2 : w.heap.size + 1 + 1 < w4.heap.size := rowlt HR4_2.out
  have y4_3 : w3.heap.size < w4.heap.size := rowlt HR4_3.out
  have cls : ∀ V, Below w4.heap.size w4 V → V.cell? ⟨w.heap.size, 2, none⟩ = some (.int .i64 sg) ∧ V.cell? ⟨w.heap.size + 1, 0, none⟩ = some (.int .i64 1) ∧ V.cell? ⟨w.heap.size + 1, 1, none⟩ = some (.bool nl) ∧ V.cell? ⟨w.heap.size + 1, 2, none⟩ = some (.int .i64 sl) ∧ V.cell? ⟨w.heap.size + 1, 3, none⟩ = some (.int .u64 hl) ∧ V.cell? ⟨w.heap.size + 1, 4, none⟩ = some (.int .u64 ll) ∧ V.cell? ⟨w.heap.size + 1, 5, none⟩ = some (.bool false) := fun V hV => by
    have q0 := (hV.block (w.heap.size) y4_0).trans HR4_0.out
    have q1 := (hV.block (w.heap.size + 1) y4_1).trans HR4_1.out
    exact ⟨rowcell q0 2, rowcell q1 0, rowcell q1 1, rowcell q1 2, rowcell q1 3, rowcell q1 4, rowcell q1 5⟩
  have B4 : Below w4.heap.size w4 w4 := Below.refl _ _
  go_cut [7] from 19 (fun s7 wx => ∃ n : Nat, s7 = .pointer (some ⟨n, 0, none⟩) ∧ Hid (Below w4.heap.size w4 wx) ∧ w4.heap.size ≤ n ∧ Hid (wx.heap[n]? = some (.cells #[.int .u64 y0, .int .u64 y1, .int .u64 y2, .int .u64 y3, .int .u64 y4] 104 (0, 0))))
  case first =>
    refine wpC_region (fun V => V.cell? ⟨w.heap.size, 2, none⟩ = some (.int .i64 sg) ∧ V.cell? ⟨w.heap.size + 1, 0, none⟩ = some (.int .i64 1) ∧ V.cell? ⟨w.heap.size + 1, 1, none⟩ = some (.bool nl) ∧ V.cell? ⟨w.heap.size + 1, 2, none⟩ = some (.int .i64 sl) ∧ V.cell? ⟨w.heap.size + 1, 3, none⟩ = some (.int .u64 hl) ∧ V.cell? ⟨w.heap.size + 1, 4, none⟩ = some (.int .u64 ll) ∧ V.cell? ⟨w.heap.size + 1, 5, none⟩ = some (.bool false)) (by kernel_rfl) ?_
    refine wpC_take 0 (v := ?_) rfl (by kernel_rfl) (fun _ _ _ h => h) (by kernel_rfl) ?_ ?_; rotate_left; · (intro wC hC; obtain ⟨d0, d1, d2, d3, d4, d5, d6⟩ := hC; go_simp <;> with_reducible rfl)
    refine wpC_take 2 (v := ?_) rfl (by kernel_rfl) (fun _ _ _ h => h) (by kernel_rfl) ?_ ?_; rotate_left; · (intro wC hC; obtain ⟨d0, d1, d2, d3, d4, d5, d6⟩ := hC; go_simp <;> with_reducible rfl)
    refine wpC_take 3 (v := ?_) rfl (by kernel_rfl) (fun _ _ _ h => h) (by kernel_rfl) ?_ ?_; rotate_left; · (intro wC hC; obtain ⟨d0, d1, d2, d3, d4, d5, d6⟩ := hC; go_simp <;> with_reducible rfl)
    refine wpC_take 4 (v := ?_) rfl (by kernel_rfl) (fun _ _ _ h => h) (by kernel_rfl) ?_ ?_; rotate_left; · (intro wC hC; obtain ⟨d0, d1, d2, d3, d4, d5, d6⟩ := hC; go_simp <;> with_reducible rfl)
    refine wpC_take 5 (v := ?_) rfl (by kernel_rfl) (fun _ _ _ h => h) (by kernel_rfl) ?_ ?_; rotate_left; · (intro wC hC; obtain ⟨d0, d1, d2, d3, d4, d5, d6⟩ := hC; go_simp <;> with_reducible rfl)
    refine wpC_take 6 (v := ?_) rfl (by kernel_rfl) (fun _ _ _ h => h) (by kernel_rfl) ?_ ?_; rotate_left; · (intro wC hC; obtain ⟨d0, d1, d2, d3, d4, d5, d6⟩ := hC; go_simp <;> with_reducible rfl)
    refine wpC_take 7 (v := ?_) rfl (by kernel_rfl) (fun _ _ _ h => h) (by kernel_rfl) ?_ ?_; rotate_left; · (intro wC hC; obtain ⟨d0, d1, d2, d3, d4, d5, d6⟩ := hC; go_simp <;> with_reducible rfl)
    refine wpC_take 8 (v := ?_) rfl (by kernel_rfl) (fun _ _ _ h => h) (by kernel_rfl) ?_ ?_; rotate_left; · (intro wC hC; obtain ⟨d0, d1, d2, d3, d4, d5, d6⟩ := hC; go_simp <;> with_reducible rfl)
    refine wpC_two 1 10 rfl rfl (by kernel_rfl) (by kernel_rfl) (by kernel_rfl) (cls _ (bdrew B4)) (fun K hK => ?_) (fun K hK => ?_)
    · skip
      go_simp
      go_wp2_with ((go_at_call 64; refine (dl _).mono ?_; rintro e w5 ⟨rfl, hb5⟩; have B5 := bthen (bdrew B4) hb5))
      try (refine hK _ _ ?_; clear hK K)
      refine wpC_two 9 10 rfl rfl (by kernel_rfl) (by kernel_rfl) (by kernel_rfl) (cls _ B5) (fun K hK => ?_) (fun K hK => ?_)
      · skip
        go_simp
        go_wp2_with ((go_at_call 63; refine (k2 _).mono ?_; rintro e w6 ⟨rfl, hb6⟩; have B6 := bthen (B5) hb6))
        try (refine hK _ _ ?_; clear hK K)
        refine wpC_step 10 rfl (by kernel_rfl) (by kernel_rfl) (cls _ B6) (fun K hK => ?_)
        go_simp
        try (refine hK _ _ ?_; clear hK K)
        refine wpC_step 11 rfl (by kernel_rfl) (by kernel_rfl) (cls _ (bmore B6 _)) (fun K hK => ?_)
        go_simp
        try (refine hK _ _ ?_; clear hK K)
        refine wpC_done (by kernel_rfl) (cls _ (bmore B6 _)) ?_
        go_wp2_with fail
        go_meet
        case rel => exact ⟨_, rfl, bmore B6 _, B6.size, rownew _ _ _⟩
      · skip
        go_simp
        try (refine hK _ _ ?_; clear hK K)
        refine wpC_step 9 rfl (by kernel_rfl) (by kernel_rfl) (cls _ (bmore B5 _)) (fun K hK => ?_)
        go_simp
        go_wp2_with ((go_at_call 63; refine (k2 _).mono ?_; rintro e w6 ⟨rfl, hb6⟩; have B6 := bthen (bmore B5 _) hb6; have R6 := (hb6.block (w5.heap.size) (by simp)).trans (rownew _ _ _); have rf := rowfree R6; have rl := rowlt R6; have rc0 := rowcell R6 0; have rc1 := rowcell R6 1; have rc2 := rowcell R6 2; have rc3 := rowcell R6 3; have rc4 := rowcell R6 4; simp only [List.getElem?_toArray, List.getElem?_cons_zero, List.getElem?_cons_succ] at rc0 rc1 rc2 rc3 rc4))
        try (refine hK _ _ ?_; clear hK K)
        have y5 := B5.size
        refine wpC_step 11 rfl (by kernel_rfl) (by kernel_rfl) (cls _ B6) (fun K hK => ?_)
        go_simp
        try (refine hK _ _ ?_; clear hK K)
        refine wpC_done (by kernel_rfl) (cls _ (cset5 B6 y5)) ?_
        go_wp2_with fail
        go_meet
        case rel => exact ⟨_, rfl, cset5 B6 y5, y5, row5 R6⟩
    · skip
      go_simp
      try (refine hK _ _ ?_; clear hK K)
      refine wpC_step 1 rfl (by kernel_rfl) (by kernel_rfl) (cls _ (bmore (bdrew B4) _)) (fun K hK => ?_)
      go_simp
      go_wp2_with ((go_at_call 64; refine (dl _).mono ?_; rintro e w5 ⟨rfl, hb5⟩; have B5 := bthen (bmore (bdrew B4) _) hb5; have R5 := (hb5.block (w4.heap.size) (by simp)).trans (rownew _ _ _); have y5 := rowlt R5))
      try (refine hK _ _ ?_; clear hK K)
      refine wpC_step 9 rfl (by kernel_rfl) (by kernel_rfl) (cls _ B5) (fun K hK => ?_)
      go_simp
      go_wp2_with ((go_at_call 63; refine (k2 _).mono ?_; rintro e w6 ⟨rfl, hb6⟩; have B6 := bthen (B5) hb6; have R6 := (hb6.block (w4.heap.size) y5).trans (R5); have rf := rowfree R6; have rl := rowlt R6; have rc0 := rowcell R6 0; have rc1 := rowcell R6 1; have rc2 := rowcell R6 2; have rc3 := rowcell R6 3; have rc4 := rowcell R6 4; simp only [List.getElem?_toArray, List.getElem?_cons_zero, List.getElem?_cons_succ] at rc0 rc1 rc2 rc3 rc4))
      try (refine hK _ _ ?_; clear hK K)
      refine wpC_step 11 rfl (by kernel_rfl) (by kernel_rfl) (cls _ B6) (fun K hK => ?_)
      go_simp
      try (refine hK _ _ ?_; clear hK K)
      refine wpC_done (by kernel_rfl) (cls _ (cset5 B6 (Nat.le_refl _))) ?_
      go_wp2_with fail
      go_meet
      case rel => exact ⟨_, rfl, cset5 B6 (Nat.le_refl _), Nat.le_refl _, row5 R6⟩
  case rest =>
    obtain ⟨n, rfl, hbx, hn, hrx⟩ := hcut
    have HB4 : Hid (Below w4.heap.size w4 wc) := hbx.out
    have HR5_0 := (show Hid _ from (hbx.out.block (w.heap.size) y4_0).trans HR4_0.out)
    have HR5_1 := (show Hid _ from (hbx.out.block (w.heap.size + 1) y4_1).trans HR4_1.out)
    have HR5_2 := (show Hid _ from (hbx.out.block (w.heap.size + 1 + 1) y4_2).trans HR4_2.out)
    have HR5_3 := (show Hid _ from (hbx.out.block (w3.heap.size) y4_3).trans HR4_3.out)
    have HR5_4 := hrx
    have z5_0 : w.heap.size < wc.heap.size := rowlt HR5_0.out
    have z5_1 : w.heap.size + 1 < wc.heap.size := rowlt HR5_1.out
    have z5_2 : w.heap.size + 1 + 1 < wc.heap.size := rowlt HR5_2.out
    have z5_3 : w3.heap.size < wc.heap.size := rowlt HR5_3.out
    have z5_4 : n < wc.heap.size := rowlt HR5_4.out
    have y5_3 : w.heap.size + 1 + 1 < w3.heap.size := by omega
    have HBY : Hid (Below w.heap.size w wc) := cthen HBX.out HB4.out
    clear hbx hrx cls B4 HBX HB4
    have k3_0 := rowcell HR5_3.out 0
    have k3_1 := rowcell HR5_3.out 1
    have k3_2 := rowcell HR5_3.out 2
    have k3_3 := rowcell HR5_3.out 3
    have k3_4 := rowcell HR5_3.out 4
    have k4_0 := rowcell HR5_4.out 0
    have k4_1 := rowcell HR5_4.out 1
    have k4_2 := rowcell HR5_4.out 2
    have k4_3 := rowcell HR5_4.out 3
    have k4_4 := rowcell HR5_4.out 4
    have k0_1 := rowcell HR5_0.out 1
    have k1_1 := rowcell HR5_1.out 1
    simp only [List.getElem?_toArray, List.getElem?_cons_zero, List.getElem?_cons_succ] at k0_1 k1_1 k3_0 k3_1 k3_2 k3_3 k3_4 k4_0 k4_1 k4_2 k4_3 k4_4
    go_wp2_with (first
      | (go_at_call 65; go_must (refine (k3 _).mono ?_); rintro e w6 ⟨rfl, hb6⟩; have R6_0 := (hb6.block (w.heap.size) (by first | (simp; done) | (simp; omega) | omega)).trans HR5_0.out; have z6_0 : w.heap.size < w6.heap.size := Nat.lt_of_lt_of_le (by first | (simp; done) | (simp; omega) | omega) hb6.size; have c6_0_1 := rowcell R6_0 1; simp only [List.getElem?_toArray, List.getElem?_cons_zero, List.getElem?_cons_succ] at c6_0_1; have HR6_0 : Hid _ := R6_0; clear R6_0; have R6_1 := (hb6.block (w.heap.size + 1) (by first | (simp; done) | (simp; omega) | omega)).trans HR5_1.out; have z6_1 : w.heap.size + 1 < w6.heap.size := Nat.lt_of_lt_of_le (by first | (simp; done) | (simp; omega) | omega) hb6.size; have c6_1_1 := rowcell R6_1 1; simp only [List.getElem?_toArray, List.getElem?_cons_zero, List.getElem?_cons_succ] at c6_1_1; have HR6_1 : Hid _ := R6_1; clear R6_1; have R6_2 := (hb6.block (w.heap.size + 1 + 1) (by first | (simp; done) | (simp; omega) | omega)).trans HR5_2.out; have z6_2 : w.heap.size + 1 + 1 < w6.heap.size := Nat.lt_of_lt_of_le (by first | (simp; done) | (simp; omega) | omega) hb6.size; have HR6_2 : Hid _ := R6_2; clear R6_2; have R6_3 := (hb6.block (w3.heap.size) (by first | (simp; done) | (simp; omega) | omega)).trans HR5_3.out; have z6_3 : w3.heap.size < w6.heap.size := Nat.lt_of_lt_of_le (by first | (simp; done) | (simp; omega) | omega) hb6.size; have c6_3_0 := rowcell R6_3 0; have c6_3_1 := rowcell R6_3 1; have c6_3_2 := rowcell R6_3 2; have c6_3_3 := rowcell R6_3 3; have c6_3_4 := rowcell R6_3 4; simp only [List.getElem?_toArray, List.getElem?_cons_zero, List.getElem?_cons_succ] at c6_3_0 c6_3_1 c6_3_2 c6_3_3 c6_3_4; have HR6_3 : Hid _ := R6_3; clear R6_3; have R6_4 := (hb6.block (n) (by first | (simp; done) | (simp; omega) | omega)).trans HR5_4.out; have z6_4 : n < w6.heap.size := Nat.lt_of_lt_of_le (by first | (simp; done) | (simp; omega) | omega) hb6.size; have c6_4_0 := rowcell R6_4 0; have c6_4_1 := rowcell R6_4 1; have c6_4_2 := rowcell R6_4 2; have c6_4_3 := rowcell R6_4 3; have c6_4_4 := rowcell R6_4 4; simp only [List.getElem?_toArray, List.getElem?_cons_zero, List.getElem?_cons_succ] at c6_4_0 c6_4_1 c6_4_2 c6_4_3 c6_4_4; have HR6_4 : Hid _ := R6_4; clear R6_4; have HB6 : Hid (Below _ _ _) := hb6; clear hb6)
      | (go_at_call 66; go_must (refine (k4 _).mono ?_); rintro e w7 ⟨rfl, hb7⟩; have R7_0 := (hb7.block (w.heap.size) (by first | (simp; done) | (simp; omega) | omega)).trans ((Below.heap_alloc _ _ _ (by first | (simp; done) | (simp; omega) | omega)).trans HR6_0.out); have z7_0 : w.heap.size < w7.heap.size := Nat.lt_of_lt_of_le (by first | (simp; done) | (simp; omega) | omega) hb7.size; have HR7_0 : Hid _ := R7_0; clear R7_0; have R7_1 := (hb7.block (w.heap.size + 1) (by first | (simp; done) | (simp; omega) | omega)).trans ((Below.heap_alloc _ _ _ (by first | (simp; done) | (simp; omega) | omega)).trans HR6_1.out); have z7_1 : w.heap.size + 1 < w7.heap.size := Nat.lt_of_lt_of_le (by first | (simp; done) | (simp; omega) | omega) hb7.size; have HR7_1 : Hid _ := R7_1; clear R7_1; have R7_2 := (hb7.block (w.heap.size + 1 + 1) (by first | (simp; done) | (simp; omega) | omega)).trans ((Below.heap_alloc _ _ _ (by first | (simp; done) | (simp; omega) | omega)).trans HR6_2.out); have z7_2 : w.heap.size + 1 + 1 < w7.heap.size := Nat.lt_of_lt_of_le (by first | (simp; done) | (simp; omega) | omega) hb7.size; have c7_2_0 := rowcell R7_2 0; have c7_2_1 := rowcell R7_2 1; have c7_2_2 := rowcell R7_2 2; have c7_2_3 := rowcell R7_2 3; have c7_2_4 := rowcell R7_2 4; have c7_2_5 := rowcell R7_2 5; simp only [List.getElem?_toArray, List.getElem?_cons_zero, List.getElem?_cons_succ] at c7_2_0 c7_2_1 c7_2_2 c7_2_3 c7_2_4 c7_2_5; have HR7_2 : Hid _ := R7_2; clear R7_2; have R7_3 := (hb7.block (w3.heap.size) (by first | (simp; done) | (simp; omega) | omega)).trans ((Below.heap_alloc _ _ _ (by first | (simp; done) | (simp; omega) | omega)).trans HR6_3.out); have z7_3 : w3.heap.size < w7.heap.size := Nat.lt_of_lt_of_le (by first | (simp; done) | (simp; omega) | omega) hb7.size; have HR7_3 : Hid _ := R7_3; clear R7_3; have R7_4 := (hb7.block (n) (by first | (simp; done) | (simp; omega) | omega)).trans ((Below.heap_alloc _ _ _ (by first | (simp; done) | (simp; omega) | omega)).trans HR6_4.out); have z7_4 : n < w7.heap.size := Nat.lt_of_lt_of_le (by first | (simp; done) | (simp; omega) | omega) hb7.size; have HR7_4 : Hid _ := R7_4; clear R7_4; have R7_5 := (hb7.block (w6.heap.size) (by first | (simp; done) | (simp; omega) | omega)).trans (rownew' _ _ _ _ (by simp)); have z7_5 : w6.heap.size < w7.heap.size := Nat.lt_of_lt_of_le (by first | (simp; done) | (simp; omega) | omega) hb7.size; have c7_5_0 := rowcell R7_5 0; have c7_5_1 := rowcell R7_5 1; have c7_5_2 := rowcell R7_5 2; have c7_5_3 := rowcell R7_5 3; have c7_5_4 := rowcell R7_5 4; simp only [List.getElem?_toArray, List.getElem?_cons_zero, List.getElem?_cons_succ] at c7_5_0 c7_5_1 c7_5_2 c7_5_3 c7_5_4; have HR7_5 : Hid _ := R7_5; clear R7_5; have HB7 : Hid (Below _ _ _) := hb7; clear hb7; have f5 := rowfree HR7_5.out; have f2 := rowfree HR7_2.out))
    refine bodyPost_ret (v := .tuple #[.agg #[.int .i64 0, .bool false, .int .i64 0, .int .u64 0, .int .u64 0, .bool false], .nilIface]) (by simp [results, Tryz.results35, go_sem, c7_2_0, c7_2_1, c7_2_2, c7_2_3, c7_2_4, c7_2_5, f2, z7_2]; done) rfl (hQ.out _ _ ⟨rfl, ?_⟩)
    exact cset6 (cset5 (cthen (cmore (cthen (HBY.out) HB6.out) _) HB7.out) (by omega)) (by omega)
set_option maxHeartbeats 8000000 in
theorem freals_swap_same (ng : Bool) (sg : Int) (hg lg : Nat) (nl : Bool) (sl : Int) (hl ll : Nat) (zz D E : Int) (kk : Nat) (a0 a1 a2 a3 a4 y0 y1 y2 y3 y4 p0 p1 p2 p3 p4 : Nat) (r0 r1 r2 r3 r4 o o2 : Nat) (uu vv sc : Int) (k : Nat) (t : Bool) (K : Int) (B : Bool) (S : Int) (H L : Nat) (T : Bool)
    (k0 : ∀ w, Calls Tryz.prog 62 #[exV 1 nl sl hl ll false, exV 1 ng sg hg lg false] w fun e w' => e = .returned (.int .i64 zz) ∧ Below w.heap.size w w')
    (hz : decide (zz < 0) = true)
    (k1 : ∀ w, Calls Tryz.prog 63 #[.agg #[.int .u64 hg, .int .u64 lg], .int .i64 191] w fun e w' => e = .returned (.agg #[.int .u64 a0, .int .u64 a1, .int .u64 a2, .int .u64 a3, .int .u64 a4]) ∧ Below w.heap.size w w')
    (q1 : IntKind.i64.wrap (sg - sl) = D) (q2 : IntKind.i64.wrap (191 - D) = E) (q3 : (if E < 0 then 0 else E) = (kk : Int))
    (k2 : ∀ w, Calls Tryz.prog 63 #[.agg #[.int .u64 hl, .int .u64 ll], .int .i64 kk] w fun e w' => e = .returned (.agg #[.int .u64 y0, .int .u64 y1, .int .u64 y2, .int .u64 y3, .int .u64 y4]) ∧ Below w.heap.size w w')
    (k3 : ∀ w, Calls Tryz.prog 65 #[.agg #[.int .u64 a0, .int .u64 a1, .int .u64 a2, .int .u64 a3, .int .u64 a4], .agg #[.int .u64 y0, .int .u64 y1, .int .u64 y2, .int .u64 y3, .int .u64 y4]] w fun e w' => e = .returned (.agg #[.int .u64 p0, .int .u64 p1, .int .u64 p2, .int .u64 p3, .int .u64 p4]) ∧ Below w.heap.size w w')
    (hs : (ng == nl) = true)
    (h0 : (decide ((p0 : Int) = 0) && decide ((p1 : Int) = 0) && decide ((p2 : Int) = 0) && decide ((p3 : Int) = 0) && decide ((p4 : Int) = 0)) = false)
    (k5 : ∀ w, Calls Tryz.prog 67 #[.agg #[.int .u64 p0, .int .u64 p1, .int .u64 p2, .int .u64 p3, .int .u64 p4]] w fun e w' => e = .returned (.tuple #[.agg #[.int .u64 r0, .int .u64 r1, .int .u64 r2, .int .u64 r3, .int .u64 r4], .int .i64 k]) ∧ Below w.heap.size w w')
    (q4 : IntKind.i64.wrap (sg + 1) = uu) (q5 : IntKind.i64.wrap (uu - (k : Int)) = vv) (q8 : IntKind.i64.wrap (vv - 127) = sc) (q6 : bits BinOp.or IntKind.u64 (r2 : Int) (r1 : Int) = (o : Int)) (q9 : bits BinOp.or IntKind.u64 (o : Int) (r0 : Int) = (o2 : Int)) (q7 : ((o2 : Int) != 0) = t)
    (k6 : ∀ w, Calls Tryz.prog 50 #[.bool ng, .int .u64 r4, .int .u64 r3, .int .i64 sc, .bool t] w fun e w' => e = .returned (.tuple #[exV K B S H L T, .nilIface]) ∧ Below w.heap.size w w') (w : World) :
    Calls Tryz.prog 35 #[exV 1 nl sl hl ll false, exV 1 ng sg hg lg false] w fun e w' => e = .returned (.tuple #[exV K B S H L T, .nilIface]) ∧ Below w.heap.size w w' := by
  have dg := fdigits_any 1 ng sg hg lg false
  have dl := fdigits_any 1 nl sl hl ll false
  unfold exV at *
  have heq := eql5_words p0 p1 p2 p3 p4
  rw [h0] at heq
  have v0 : IntKind.i64.wrap 0 = 0 := rfl
  have v1 : IntKind.i64.wrap 1 = 1 := rfl
  have v2 : IntKind.i64.wrap 2 = 2 := rfl
  have v3 : IntKind.i64.wrap 3 = 3 := rfl
  have v4 : IntKind.i64.wrap 4 = 4 := rfl
  refine cps fun Q hQ => ?_
  go_enter Tryz.func35, Tryz.ntmps35
  go_upto_region 3 with (go_at_call 62; go_must (refine (k0 _).mono ?_); rintro e wa ⟨rfl, hb1⟩; have RA_0 := (hb1.block (w.heap.size) (by first | (simp; done) | (simp; omega) | omega)).trans ((Below.heap_alloc _ _ _ (by first | (simp; done) | (simp; omega) | omega)).trans ((Below.heap_alloc _ _ _ (by first | (simp; done) | (simp; omega) | omega)).trans (rownew' _ _ _ _ (by simp)))); have za_0 : w.heap.size < wa.heap.size := Nat.lt_of_lt_of_le (by first | (simp; done) | (simp; omega) | omega) hb1.size; have ca_0_0 := rowcell RA_0 0; have ca_0_1 := rowcell RA_0 1; have ca_0_2 := rowcell RA_0 2; have ca_0_3 := rowcell RA_0 3; have ca_0_4 := rowcell RA_0 4; have ca_0_5 := rowcell RA_0 5; simp only [List.getElem?_toArray, List.getElem?_cons_zero, List.getElem?_cons_succ] at ca_0_0 ca_0_1 ca_0_2 ca_0_3 ca_0_4 ca_0_5; have HA1_0 : Hid _ := RA_0; clear RA_0; have RA_1 := (hb1.block (w.heap.size + 1) (by first | (simp; done) | (simp; omega) | omega)).trans ((Below.heap_alloc _ _ _ (by first | (simp; done) | (simp; omega) | omega)).trans (rownew' _ _ _ _ (by simp))); have za_1 : w.heap.size + 1 < wa.heap.size := Nat.lt_of_lt_of_le (by first | (simp; done) | (simp; omega) | omega) hb1.size; have ca_1_0 := rowcell RA_1 0; have ca_1_1 := rowcell RA_1 1; have ca_1_2 := rowcell RA_1 2; have ca_1_3 := rowcell RA_1 3; have ca_1_4 := rowcell RA_1 4; have ca_1_5 := rowcell RA_1 5; simp only [List.getElem?_toArray, List.getElem?_cons_zero, List.getElem?_cons_succ] at ca_1_0 ca_1_1 ca_1_2 ca_1_3 ca_1_4 ca_1_5; have HA1_1 : Hid _ := RA_1; clear RA_1; have RA_2 := (hb1.block (w.heap.size + 1 + 1) (by first | (simp; done) | (simp; omega) | omega)).trans (rownew' _ _ _ _ (by simp)); have za_2 : w.heap.size + 1 + 1 < wa.heap.size := Nat.lt_of_lt_of_le (by first | (simp; done) | (simp; omega) | omega) hb1.size; have HA1_2 : Hid _ := RA_2; clear RA_2; have HA1 : Hid (Below _ _ _) := hb1; clear hb1; have fr0 := rowfree HA1_0.out; have fr1 := rowfree HA1_1.out; have fr2 := rowfree HA1_2.out)
  generalize hw1 : World.setCell _ _ _ = w1
  have HR1_0 : Hid (w1.heap[w.heap.size]? = some (.cells #[.int .i64 1, .bool ng, .int .i64 sg, .int .u64 hg, .int .u64 lg, .bool false] 39 (0, 0))) := by show _ = _; rw [← hw1]; exact rowE6_other (rowE6 HA1_0.out) (by omega)
  have HR1_1 : Hid (w1.heap[w.heap.size + 1]? = some (.cells #[.int .i64 1, .bool nl, .int .i64 sl, .int .u64 hl, .int .u64 ll, .bool false] 39 (0, 0))) := by show _ = _; rw [← hw1]; exact rowE6 (rowE6_other HA1_1.out (by omega))
  have HR1_2 : Hid (w1.heap[w.heap.size + 1 + 1]? = some (.cells #[.int .i64 0, .bool false, .int .i64 0, .int .u64 0, .int .u64 0, .bool false] 39 (0, 0))) := by show _ = _; rw [← hw1]; exact rowE6_other (rowE6_other HA1_2.out (by omega)) (by omega)
  have HBW : Hid (Below w.heap.size w w1) := by show Below _ _ _; rw [← hw1]; exact cset6 (cset6 (cthen (cmore (cmore (cmore (Below.refl _ _) _) _) _) HA1.out) (Nat.le_refl _)) (by omega)
  clear ca_0_0 ca_0_1 ca_0_2 ca_0_3 ca_0_4 ca_0_5 ca_1_0 ca_1_1 ca_1_2 ca_1_3 ca_1_4 ca_1_5 fr0 fr1 fr2 hw1 za_0 za_1 za_2
  have z1_0 : w.heap.size < w1.heap.size := rowlt HR1_0.out
  have z1_1 : w.heap.size + 1 < w1.heap.size := rowlt HR1_1.out
  have z1_2 : w.heap.size + 1 + 1 < w1.heap.size := rowlt HR1_2.out
  have x0_ := rowcell HR1_0.out 0
  have x1_ := rowcell HR1_0.out 1
  have x2_ := rowcell HR1_0.out 2
  have x3_ := rowcell HR1_0.out 3
  have x4_ := rowcell HR1_0.out 4
  have x5_ := rowcell HR1_0.out 5
  simp only [List.getElem?_toArray, List.getElem?_cons_zero, List.getElem?_cons_succ] at x0_ x1_ x2_ x3_ x4_ x5_
  go_upto_region 4 with (first
    | (go_at_call 63; have chk := HB2; go_must (refine (k1 _).mono ?_); rintro e w3 ⟨rfl, hb3⟩; have R3_0 := (hb3.block (w.heap.size) (by first | (simp; done) | (simp; omega) | omega)).trans HR2_0.out; have z3_0 : w.heap.size < w3.heap.size := Nat.lt_of_lt_of_le (by first | (simp; done) | (simp; omega) | omega) hb3.size; have HR3_0 : Hid _ := R3_0; clear R3_0; have R3_1 := (hb3.block (w.heap.size + 1) (by first | (simp; done) | (simp; omega) | omega)).trans HR2_1.out; have z3_1 : w.heap.size + 1 < w3.heap.size := Nat.lt_of_lt_of_le (by first | (simp; done) | (simp; omega) | omega) hb3.size; have HR3_1 : Hid _ := R3_1; clear R3_1; have R3_2 := (hb3.block (w.heap.size + 1 + 1) (by first | (simp; done) | (simp; omega) | omega)).trans HR2_2.out; have z3_2 : w.heap.size + 1 + 1 < w3.heap.size := Nat.lt_of_lt_of_le (by first | (simp; done) | (simp; omega) | omega) hb3.size; have HR3_2 : Hid _ := R3_2; clear R3_2; have HB3 : Hid (Below _ _ _) := hb3; clear hb3)
    | (go_at_call 64; go_must (refine (dg _).mono ?_); rintro e w2 ⟨rfl, hb2⟩; have R2_0 := (hb2.block (w.heap.size) (by first | (simp; done) | (simp; omega) | omega)).trans HR1_0.out; have z2_0 : w.heap.size < w2.heap.size := Nat.lt_of_lt_of_le (by first | (simp; done) | (simp; omega) | omega) hb2.size; have HR2_0 : Hid _ := R2_0; clear R2_0; have R2_1 := (hb2.block (w.heap.size + 1) (by first | (simp; done) | (simp; omega) | omega)).trans HR1_1.out; have z2_1 : w.heap.size + 1 < w2.heap.size := Nat.lt_of_lt_of_le (by first | (simp; done) | (simp; omega) | omega) hb2.size; have HR2_1 : Hid _ := R2_1; clear R2_1; have R2_2 := (hb2.block (w.heap.size + 1 + 1) (by first | (simp; done) | (simp; omega) | omega)).trans HR1_2.out; have z2_2 : w.heap.size + 1 + 1 < w2.heap.size := Nat.lt_of_lt_of_le (by first | (simp; done) | (simp; omega) | omega) hb2.size; have HR2_2 : Hid _ := R2_2; clear R2_2; have HB2 : Hid (Below _ _ _) := hb2; clear hb2))
  clear x0_ x1_ x2_ x3_ x4_ x5_
  generalize hw4 : World.alloc w3 _ = w4
  have HR4_0 := (show Hid _ from (by rw [← hw4]; exact (Below.heap_alloc _ _ _ (by omega)).trans HR3_0.out : w4.heap[w.heap.size]? = some (.cells #[.int .i64 1, .bool ng, .int .i64 sg, .int .u64 hg, .int .u64 lg, .bool false] 39 (0, 0))))
  have HR4_1 := (show Hid _ from (by rw [← hw4]; exact (Below.heap_alloc _ _ _ (by omega)).trans HR3_1.out : w4.heap[w.heap.size + 1]? = some (.cells #[.int .i64 1, .bool nl, .int .i64 sl, .int .u64 hl, .int .u64 ll, .bool false] 39 (0, 0))))
  have HR4_2 := (show Hid _ from (by rw [← hw4]; exact (Below.heap_alloc _ _ _ (by omega)).trans HR3_2.out : w4.heap[w.heap.size + 1 + 1]? = some (.cells #[.int .i64 0, .bool false, .int .i64 0, .int .u64 0, .int .u64 0, .bool false] 39 (0, 0))))
  have HR4_3 := (show Hid _ from (by rw [← hw4]; exact rownew _ _ _ : w4.heap[w3.heap.size]? = some (.cells #[.int .u64 a0, .int .u64 a1, .int .u64 a2, .int .u64 a3, .int .u64 a4] 104 (0, 0))))
  have HBX : Hid (Below w.heap.size w w4) := by show Below _ _ _; rw [← hw4]; exact cmore (cthen (cthen (HBW.out) HB2.out) HB3.out) _
  clear hw4
  have y4_0 : w.heap.size < w4.heap.size := rowlt HR4_0.out
  have y4_1 : w.heap.size + 1 < w4.heap.size := rowlt HR4_1.out
  have y4_2 : w.heap.size + 1 + 1 < w4.heap.size := rowlt HR4_2.out
  have y4_3 : w3.heap.size < w4.heap.size := rowlt HR4_3.out
  have cls : ∀ V, Below w4.heap.size w4 V → V.cell? ⟨w.heap.size, 2, none⟩ = some (.int .i64 sg) ∧ V.cell? ⟨w.heap.size + 1, 0, none⟩ = some (.int .i64 1) ∧ V.cell? ⟨w.heap.size + 1, 1, none⟩ = some (.bool nl) ∧ V.cell? ⟨w.heap.size + 1, 2, none⟩ = some (.int .i64 sl) ∧ V.cell? ⟨w.heap.size + 1, 3, none⟩ = some (.int .u64 hl) ∧ V.cell? ⟨w.heap.size + 1, 4, none⟩ = some (.int .u64 ll) ∧ V.cell? ⟨w.heap.size + 1, 5, none⟩ = some (.bool false) := fun V hV => by
    have q0 := (hV.block (w.heap.size) y4_0).trans HR4_0.out
    have q1 := (hV.block (w.heap.size + 1) y4_1).trans HR4_1.out
    exact ⟨rowcell q0 2, rowcell q1 0, rowcell q1 1, rowcell q1 2, rowcell q1 3, rowcell q1 4, rowcell q1 5⟩
  have B4 : Below w4.heap.size w4 w4 := Below.refl _ _
  go_cut [7] from 19 (fun s7 wx => ∃ n : Nat, s7 = .pointer (some ⟨n, 0, none⟩) ∧ Hid (Below w4.heap.size w4 wx) ∧ w4.heap.size ≤ n ∧ Hid (wx.heap[n]? = some (.cells #[.int .u64 y0, .int .u64 y1, .int .u64 y2, .int .u64 y3, .int .u64 y4] 104 (0, 0))))
  case first =>
    refine wpC_region (fun V => V.cell? ⟨w.heap.size, 2, none⟩ = some (.int .i64 sg) ∧ V.cell? ⟨w.heap.size + 1, 0, none⟩ = some (.int .i64 1) ∧ V.cell? ⟨w.heap.size + 1, 1, none⟩ = some (.bool nl) ∧ V.cell? ⟨w.heap.size + 1, 2, none⟩ = some (.int .i64 sl) ∧ V.cell? ⟨w.heap.size + 1, 3, none⟩ = some (.int .u64 hl) ∧ V.cell? ⟨w.heap.size + 1, 4, none⟩ = some (.int .u64 ll) ∧ V.cell? ⟨w.heap.size + 1, 5, none⟩ = some (.bool false)) (by kernel_rfl) ?_
    refine wpC_take 0 (v := ?_) rfl (by kernel_rfl) (fun _ _ _ h => h) (by kernel_rfl) ?_ ?_; rotate_left; · (intro wC hC; obtain ⟨d0, d1, d2, d3, d4, d5, d6⟩ := hC; go_simp <;> with_reducible rfl)
    refine wpC_take 2 (v := ?_) rfl (by kernel_rfl) (fun _ _ _ h => h) (by kernel_rfl) ?_ ?_; rotate_left; · (intro wC hC; obtain ⟨d0, d1, d2, d3, d4, d5, d6⟩ := hC; go_simp <;> with_reducible rfl)
    refine wpC_take 3 (v := ?_) rfl (by kernel_rfl) (fun _ _ _ h => h) (by kernel_rfl) ?_ ?_; rotate_left; · (intro wC hC; obtain ⟨d0, d1, d2, d3, d4, d5, d6⟩ := hC; go_simp <;> with_reducible rfl)
    refine wpC_take 4 (v := ?_) rfl (by kernel_rfl) (fun _ _ _ h => h) (by kernel_rfl) ?_ ?_; rotate_left; · (intro wC hC; obtain ⟨d0, d1, d2, d3, d4, d5, d6⟩ := hC; go_simp <;> with_reducible rfl)
    refine wpC_take 5 (v := ?_) rfl (by kernel_rfl) (fun _ _ _ h => h) (by kernel_rfl) ?_ ?_; rotate_left; · (intro wC hC; obtain ⟨d0, d1, d2, d3, d4, d5, d6⟩ := hC; go_simp <;> with_reducible rfl)
    refine wpC_take 6 (v := ?_) rfl (by kernel_rfl) (fun _ _ _ h => h) (by kernel_rfl) ?_ ?_; rotate_left; · (intro wC hC; obtain ⟨d0, d1, d2, d3, d4, d5, d6⟩ := hC; go_simp <;> with_reducible rfl)
    refine wpC_take 7 (v := ?_) rfl (by kernel_rfl) (fun _ _ _ h => h) (by kernel_rfl) ?_ ?_; rotate_left; · (intro wC hC; obtain ⟨d0, d1, d2, d3, d4, d5, d6⟩ := hC; go_simp <;> with_reducible rfl)
    refine wpC_take 8 (v := ?_) rfl (by kernel_rfl) (fun _ _ _ h => h) (by kernel_rfl) ?_ ?_; rotate_left; · (intro wC hC; obtain ⟨d0, d1, d2, d3, d4, d5, d6⟩ := hC; go_simp <;> with_reducible rfl)
    refine wpC_two 1 10 rfl rfl (by kernel_rfl) (by kernel_rfl) (by kernel_rfl) (cls _ (bdrew B4)) (fun K hK => ?_) (fun K hK => ?_)
    · skip
      go_simp
      go_wp2_with ((go_at_call 64; refine (dl _).mono ?_; rintro e w5 ⟨rfl, hb5⟩; have B5 := bthen (bdrew B4) hb5))
      try (refine hK _ _ ?_; clear hK K)
      refine wpC_two 9 10 rfl rfl (by kernel_rfl) (by kernel_rfl) (by kernel_rfl) (cls _ B5) (fun K hK => ?_) (fun K hK => ?_)
      · skip
        go_simp
        go_wp2_with ((go_at_call 63; refine (k2 _).mono ?_; rintro e w6 ⟨rfl, hb6⟩; have B6 := bthen (B5) hb6))
        try (refine hK _ _ ?_; clear hK K)
        refine wpC_step 10 rfl (by kernel_rfl) (by kernel_rfl) (cls _ B6) (fun K hK => ?_)
        go_simp
        try (refine hK _ _ ?_; clear hK K)
        refine wpC_step 11 rfl (by kernel_rfl) (by kernel_rfl) (cls _ (bmore B6 _)) (fun K hK => ?_)
        go_simp
        try (refine hK _ _ ?_; clear hK K)
        refine wpC_done (by kernel_rfl) (cls _ (bmore B6 _)) ?_
        go_wp2_with fail
        go_meet
        case rel => exact ⟨_, rfl, bmore B6 _, B6.size, rownew _ _ _⟩
      · skip
        go_simp
        try (refine hK _ _ ?_; clear hK K)
        refine wpC_step 9 rfl (by kernel_rfl) (by kernel_rfl) (cls _ (bmore B5 _)) (fun K hK => ?_)
        go_simp
        go_wp2_with ((go_at_call 63; refine (k2 _).mono ?_; rintro e w6 ⟨rfl, hb6⟩; have B6 := bthen (bmore B5 _) hb6; have R6 := (hb6.block (w5.heap.size) (by simp)).trans (rownew _ _ _); have rf := rowfree R6; have rl := rowlt R6; have rc0 := rowcell R6 0; have rc1 := rowcell R6 1; have rc2 := rowcell R6 2; have rc3 := rowcell R6 3; have rc4 := rowcell R6 4; simp only [List.getElem?_toArray, List.getElem?_cons_zero, List.getElem?_cons_succ] at rc0 rc1 rc2 rc3 rc4))
        try (refine hK _ _ ?_; clear hK K)
        have y5 := B5.size
        refine wpC_step 11 rfl (by kernel_rfl) (by kernel_rfl) (cls _ B6) (fun K hK => ?_)
        go_simp
        try (refine hK _ _ ?_; clear hK K)
        refine wpC_done (by kernel_rfl) (cls _ (cset5 B6 y5)) ?_
        go_wp2_with fail
        go_meet
        case rel => exact ⟨_, rfl, cset5 B6 y5, y5, row5 R6⟩
    · skip
      go_simp
      try (refine hK _ _ ?_; clear hK K)
      refine wpC_step 1 rfl (by kernel_rfl) (by kernel_rfl) (cls _ (bmore (bdrew B4) _)) (fun K hK => ?_)
      go_simp
      go_wp2_with ((go_at_call 64; refine (dl _).mono ?_; rintro e w5 ⟨rfl, hb5⟩; have B5 := bthen (bmore (bdrew B4) _) hb5; have R5 := (hb5.block (w4.heap.size) (by simp)).trans (rownew _ _ _); have y5 := rowlt R5))
      try (refine hK _ _ ?_; clear hK K)
      refine wpC_step 9 rfl (by kernel_rfl) (by kernel_rfl) (cls _ B5) (fun K hK => ?_)
      go_simp
      go_wp2_with ((go_at_call 63; refine (k2 _).mono ?_; rintro e w6 ⟨rfl, hb6⟩; have B6 := bthen (B5) hb6; have R6 := (hb6.block (w4.heap.size) y5).trans (R5); have rf := rowfree R6; have rl := rowlt R6; have rc0 := rowcell R6 0; have rc1 := rowcell R6 1; have rc2 := rowcell R6 2; have rc3 := rowcell R6 3; have rc4 := rowcell R6 4; simp only [List.getElem?_toArray, List.getElem?_cons_zero, List.getElem?_cons_succ] at rc0 rc1 rc2 rc3 rc4))
      try (refine hK _ _ ?_; clear hK K)
      refine wpC_step 11 rfl (by kernel_rfl) (by kernel_rfl) (cls _ B6) (fun K hK => ?_)
      go_simp
      try (refine hK _ _ ?_; clear hK K)
      refine wpC_done (by kernel_rfl) (cls _ (cset5 B6 (Nat.le_refl _))) ?_
      go_wp2_with fail
      go_meet
      case rel => exact ⟨_, rfl, cset5 B6 (Nat.le_refl _), Nat.le_refl _, row5 R6⟩
  case rest =>
    obtain ⟨n, rfl, hbx, hn, hrx⟩ := hcut
    have HB4 : Hid (Below w4.heap.size w4 wc) := hbx.out
    have HR5_0 := (show Hid _ from (hbx.out.block (w.heap.size) y4_0).trans HR4_0.out)
    have HR5_1 := (show Hid _ from (hbx.out.block (w.heap.size + 1) y4_1).trans HR4_1.out)
    have HR5_2 := (show Hid _ from (hbx.out.block (w.heap.size + 1 + 1) y4_2).trans HR4_2.out)
    have HR5_3 := (show Hid _ from (hbx.out.block (w3.heap.size) y4_3).trans HR4_3.out)
    have HR5_4 := hrx
    have z5_0 : w.heap.size < wc.heap.size := rowlt HR5_0.out
    have z5_1 : w.heap.size + 1 < wc.heap.size := rowlt HR5_1.out
    have z5_2 : w.heap.size + 1 + 1 < wc.heap.size := rowlt HR5_2.out
    have z5_3 : w3.heap.size < wc.heap.size := rowlt HR5_3.out
    have z5_4 : n < wc.heap.size := rowlt HR5_4.out
    have y5_3 : w.heap.size + 1 + 1 < w3.heap.size := by omega
    have HBY : Hid (Below w.heap.size w wc) := cthen HBX.out HB4.out
    clear hbx hrx cls B4 HBX HB4
    have k3_0 := rowcell HR5_3.out 0
    have k3_1 := rowcell HR5_3.out 1
    have k3_2 := rowcell HR5_3.out 2
    have k3_3 := rowcell HR5_3.out 3
    have k3_4 := rowcell HR5_3.out 4
    have k4_0 := rowcell HR5_4.out 0
    have k4_1 := rowcell HR5_4.out 1
    have k4_2 := rowcell HR5_4.out 2
    have k4_3 := rowcell HR5_4.out 3
    have k4_4 := rowcell HR5_4.out 4
    have k0_1 := rowcell HR5_0.out 1
    have k1_1 := rowcell HR5_1.out 1
    simp only [List.getElem?_toArray, List.getElem?_cons_zero, List.getElem?_cons_succ] at k0_1 k1_1 k3_0 k3_1 k3_2 k3_3 k3_4 k4_0 k4_1 k4_2 k4_3 k4_4
    go_wp2_with (first
      | (go_at_call 65; go_must (refine (k3 _).mono ?_); rintro e w6 ⟨rfl, hb6⟩; have R6_0 := (hb6.block (w.heap.size) (by first | (simp; done) | (simp; omega) | omega)).trans HR5_0.out; have z6_0 : w.heap.size < w6.heap.size := Nat.lt_of_lt_of_le (by first | (simp; done) | (simp; omega) | omega) hb6.size; have c6_0_1 := rowcell R6_0 1; simp only [List.getElem?_toArray, List.getElem?_cons_zero, List.getElem?_cons_succ] at c6_0_1; have HR6_0 : Hid _ := R6_0; clear R6_0; have R6_1 := (hb6.block (w.heap.size + 1) (by first | (simp; done) | (simp; omega) | omega)).trans HR5_1.out; have z6_1 : w.heap.size + 1 < w6.heap.size := Nat.lt_of_lt_of_le (by first | (simp; done) | (simp; omega) | omega) hb6.size; have c6_1_1 := rowcell R6_1 1; simp only [List.getElem?_toArray, List.getElem?_cons_zero, List.getElem?_cons_succ] at c6_1_1; have HR6_1 : Hid _ := R6_1; clear R6_1; have R6_2 := (hb6.block (w.heap.size + 1 + 1) (by first | (simp; done) | (simp; omega) | omega)).trans HR5_2.out; have z6_2 : w.heap.size + 1 + 1 < w6.heap.size := Nat.lt_of_lt_of_le (by first | (simp; done) | (simp; omega) | omega) hb6.size; have HR6_2 : Hid _ := R6_2; clear R6_2; have R6_3 := (hb6.block (w3.heap.size) (by first | (simp; done) | (simp; omega) | omega)).trans HR5_3.out; have z6_3 : w3.heap.size < w6.heap.size := Nat.lt_of_lt_of_le (by first | (simp; done) | (simp; omega) | omega) hb6.size; have HR6_3 : Hid _ := R6_3; clear R6_3; have R6_4 := (hb6.block (n) (by first | (simp; done) | (simp; omega) | omega)).trans HR5_4.out; have z6_4 : n < w6.heap.size := Nat.lt_of_lt_of_le (by first | (simp; done) | (simp; omega) | omega) hb6.size; have HR6_4 : Hid _ := R6_4; clear R6_4; have HB6 : Hid (Below _ _ _) := hb6; clear hb6)
      | (go_at_call 67; go_must (refine (k5 _).mono ?_); rintro e w7 ⟨rfl, hb7⟩; have R7_0 := (hb7.block (w.heap.size) (by first | (simp; done) | (simp; omega) | omega)).trans ((Below.heap_alloc _ _ _ (by first | (simp; done) | (simp; omega) | omega)).trans HR6_0.out); have z7_0 : w.heap.size < w7.heap.size := Nat.lt_of_lt_of_le (by first | (simp; done) | (simp; omega) | omega) hb7.size; have c7_0_1 := rowcell R7_0 1; have c7_0_2 := rowcell R7_0 2; simp only [List.getElem?_toArray, List.getElem?_cons_zero, List.getElem?_cons_succ] at c7_0_1 c7_0_2; have HR7_0 : Hid _ := R7_0; clear R7_0; have R7_1 := (hb7.block (w.heap.size + 1) (by first | (simp; done) | (simp; omega) | omega)).trans ((Below.heap_alloc _ _ _ (by first | (simp; done) | (simp; omega) | omega)).trans HR6_1.out); have z7_1 : w.heap.size + 1 < w7.heap.size := Nat.lt_of_lt_of_le (by first | (simp; done) | (simp; omega) | omega) hb7.size; have HR7_1 : Hid _ := R7_1; clear R7_1; have R7_2 := (hb7.block (w.heap.size + 1 + 1) (by first | (simp; done) | (simp; omega) | omega)).trans ((Below.heap_alloc _ _ _ (by first | (simp; done) | (simp; omega) | omega)).trans HR6_2.out); have z7_2 : w.heap.size + 1 + 1 < w7.heap.size := Nat.lt_of_lt_of_le (by first | (simp; done) | (simp; omega) | omega) hb7.size; have HR7_2 : Hid _ := R7_2; clear R7_2; have R7_3 := (hb7.block (w3.heap.size) (by first | (simp; done) | (simp; omega) | omega)).trans ((Below.heap_alloc _ _ _ (by first | (simp; done) | (simp; omega) | omega)).trans HR6_3.out); have z7_3 : w3.heap.size < w7.heap.size := Nat.lt_of_lt_of_le (by first | (simp; done) | (simp; omega) | omega) hb7.size; have HR7_3 : Hid _ := R7_3; clear R7_3; have R7_4 := (hb7.block (n) (by first | (simp; done) | (simp; omega) | omega)).trans ((Below.heap_alloc _ _ _ (by first | (simp; done) | (simp; omega) | omega)).trans HR6_4.out); have z7_4 : n < w7.heap.size := Nat.lt_of_lt_of_le (by first | (simp; done) | (simp; omega) | omega) hb7.size; have HR7_4 : Hid _ := R7_4; clear R7_4; have R7_5 := (hb7.block (w6.heap.size) (by first | (simp; done) | (simp; omega) | omega)).trans (rownew' _ _ _ _ (by simp)); have z7_5 : w6.heap.size < w7.heap.size := Nat.lt_of_lt_of_le (by first | (simp; done) | (simp; omega) | omega) hb7.size; have c7_5_0 := rowcell R7_5 0; have c7_5_1 := rowcell R7_5 1; have c7_5_2 := rowcell R7_5 2; have c7_5_3 := rowcell R7_5 3; have c7_5_4 := rowcell R7_5 4; simp only [List.getElem?_toArray, List.getElem?_cons_zero, List.getElem?_cons_succ] at c7_5_0 c7_5_1 c7_5_2 c7_5_3 c7_5_4; have HR7_5 : Hid _ := R7_5; clear R7_5; have HB7 : Hid (Below _ _ _) := hb7; clear hb7; have g5 := rowfree HR7_5.out; have g2 := rowfree HR7_2.out)
      | (go_at_call 50; go_must (refine (k6 _).mono ?_); rintro e w8 ⟨rfl, hb8⟩; have R8_0 := (hb8.block (w.heap.size) (by first | (simp; done) | (simp; omega) | omega)).trans (row5_other HR7_0.out (by omega)); have z8_0 : w.heap.size < w8.heap.size := Nat.lt_of_lt_of_le (by first | (simp; done) | (simp; omega) | omega) hb8.size; have HR8_0 : Hid _ := R8_0; clear R8_0; have R8_1 := (hb8.block (w.heap.size + 1) (by first | (simp; done) | (simp; omega) | omega)).trans (row5_other HR7_1.out (by omega)); have z8_1 : w.heap.size + 1 < w8.heap.size := Nat.lt_of_lt_of_le (by first | (simp; done) | (simp; omega) | omega) hb8.size; have HR8_1 : Hid _ := R8_1; clear R8_1; have R8_2 := (hb8.block (w.heap.size + 1 + 1) (by first | (simp; done) | (simp; omega) | omega)).trans (row5_other HR7_2.out (by omega)); have z8_2 : w.heap.size + 1 + 1 < w8.heap.size := Nat.lt_of_lt_of_le (by first | (simp; done) | (simp; omega) | omega) hb8.size; have c8_2_0 := rowcell R8_2 0; have c8_2_1 := rowcell R8_2 1; have c8_2_2 := rowcell R8_2 2; have c8_2_3 := rowcell R8_2 3; have c8_2_4 := rowcell R8_2 4; have c8_2_5 := rowcell R8_2 5; simp only [List.getElem?_toArray, List.getElem?_cons_zero, List.getElem?_cons_succ] at c8_2_0 c8_2_1 c8_2_2 c8_2_3 c8_2_4 c8_2_5; have HR8_2 : Hid _ := R8_2; clear R8_2; have R8_3 := (hb8.block (w3.heap.size) (by first | (simp; done) | (simp; omega) | omega)).trans (row5_other HR7_3.out (by omega)); have z8_3 : w3.heap.size < w8.heap.size := Nat.lt_of_lt_of_le (by first | (simp; done) | (simp; omega) | omega) hb8.size; have HR8_3 : Hid _ := R8_3; clear R8_3; have R8_4 := (hb8.block (n) (by first | (simp; done) | (simp; omega) | omega)).trans (row5_other HR7_4.out (by omega)); have z8_4 : n < w8.heap.size := Nat.lt_of_lt_of_le (by first | (simp; done) | (simp; omega) | omega) hb8.size; have HR8_4 : Hid _ := R8_4; clear R8_4; have R8_5 := (hb8.block (w6.heap.size) (by first | (simp; done) | (simp; omega) | omega)).trans (row5 HR7_5.out); have z8_5 : w6.heap.size < w8.heap.size := Nat.lt_of_lt_of_le (by first | (simp; done) | (simp; omega) | omega) hb8.size; have HR8_5 : Hid _ := R8_5; clear R8_5; have HB8 : Hid (Below _ _ _) := hb8; clear hb8; have m2 := rowfree HR8_2.out))
    refine bodyPost_ret (v := .tuple #[.agg #[.int .i64 K, .bool B, .int .i64 S, .int .u64 H, .int .u64 L, .bool T], .nilIface]) (by simp [results, Tryz.results35, go_sem, c8_2_0, c8_2_1, c8_2_2, c8_2_3, c8_2_4, c8_2_5, m2, z8_2]; done) rfl (hQ.out _ _ ⟨rfl, ?_⟩)
    exact cset6 (cthen (cset5 (cthen (cmore (cthen (HBY.out) HB6.out) _) HB7.out) (by omega)) HB8.out) (by omega)
set_option maxHeartbeats 8000000 in
theorem freals_swap_diff (ng : Bool) (sg : Int) (hg lg : Nat) (nl : Bool) (sl : Int) (hl ll : Nat) (zz D E : Int) (kk : Nat) (a0 a1 a2 a3 a4 y0 y1 y2 y3 y4 p0 p1 p2 p3 p4 : Nat) (m0 m1 m2 m3 m4 : Nat) (r0 r1 r2 r3 r4 o o2 : Nat) (uu vv sc : Int) (k : Nat) (t : Bool) (K : Int) (B : Bool) (S : Int) (H L : Nat) (T : Bool)
    (k0 : ∀ w, Calls Tryz.prog 62 #[exV 1 nl sl hl ll false, exV 1 ng sg hg lg false] w fun e w' => e = .returned (.int .i64 zz) ∧ Below w.heap.size w w')
    (hz : decide (zz < 0) = true)
    (k1 : ∀ w, Calls Tryz.prog 63 #[.agg #[.int .u64 hg, .int .u64 lg], .int .i64 191] w fun e w' => e = .returned (.agg #[.int .u64 a0, .int .u64 a1, .int .u64 a2, .int .u64 a3, .int .u64 a4]) ∧ Below w.heap.size w w')
    (q1 : IntKind.i64.wrap (sg - sl) = D) (q2 : IntKind.i64.wrap (191 - D) = E) (q3 : (if E < 0 then 0 else E) = (kk : Int))
    (k2 : ∀ w, Calls Tryz.prog 63 #[.agg #[.int .u64 hl, .int .u64 ll], .int .i64 kk] w fun e w' => e = .returned (.agg #[.int .u64 y0, .int .u64 y1, .int .u64 y2, .int .u64 y3, .int .u64 y4]) ∧ Below w.heap.size w w')
    (k3 : ∀ w, Calls Tryz.prog 65 #[.agg #[.int .u64 a0, .int .u64 a1, .int .u64 a2, .int .u64 a3, .int .u64 a4], .agg #[.int .u64 y0, .int .u64 y1, .int .u64 y2, .int .u64 y3, .int .u64 y4]] w fun e w' => e = .returned (.agg #[.int .u64 p0, .int .u64 p1, .int .u64 p2, .int .u64 p3, .int .u64 p4]) ∧ Below w.heap.size w w')
    (hs : (ng == nl) = false)
    (k4 : ∀ w, Calls Tryz.prog 66 #[.agg #[.int .u64 a0, .int .u64 a1, .int .u64 a2, .int .u64 a3, .int .u64 a4], .agg #[.int .u64 y0, .int .u64 y1, .int .u64 y2, .int .u64 y3, .int .u64 y4]] w fun e w' => e = .returned (.agg #[.int .u64 m0, .int .u64 m1, .int .u64 m2, .int .u64 m3, .int .u64 m4]) ∧ Below w.heap.size w w')
    (h0 : (decide ((m0 : Int) = 0) && decide ((m1 : Int) = 0) && decide ((m2 : Int) = 0) && decide ((m3 : Int) = 0) && decide ((m4 : Int) = 0)) = false)
    (k5 : ∀ w, Calls Tryz.prog 67 #[.agg #[.int .u64 m0, .int .u64 m1, .int .u64 m2, .int .u64 m3, .int .u64 m4]] w fun e w' => e = .returned (.tuple #[.agg #[.int .u64 r0, .int .u64 r1, .int .u64 r2, .int .u64 r3, .int .u64 r4], .int .i64 k]) ∧ Below w.heap.size w w')
    (q4 : IntKind.i64.wrap (sg + 1) = uu) (q5 : IntKind.i64.wrap (uu - (k : Int)) = vv) (q8 : IntKind.i64.wrap (vv - 127) = sc) (q6 : bits BinOp.or IntKind.u64 (r2 : Int) (r1 : Int) = (o : Int)) (q9 : bits BinOp.or IntKind.u64 (o : Int) (r0 : Int) = (o2 : Int)) (q7 : ((o2 : Int) != 0) = t)
    (k6 : ∀ w, Calls Tryz.prog 50 #[.bool ng, .int .u64 r4, .int .u64 r3, .int .i64 sc, .bool t] w fun e w' => e = .returned (.tuple #[exV K B S H L T, .nilIface]) ∧ Below w.heap.size w w') (w : World) :
    Calls Tryz.prog 35 #[exV 1 nl sl hl ll false, exV 1 ng sg hg lg false] w fun e w' => e = .returned (.tuple #[exV K B S H L T, .nilIface]) ∧ Below w.heap.size w w' := by
  have dg := fdigits_any 1 ng sg hg lg false
  have dl := fdigits_any 1 nl sl hl ll false
  unfold exV at *
  have heq := eql5_words m0 m1 m2 m3 m4
  rw [h0] at heq
  have v0 : IntKind.i64.wrap 0 = 0 := rfl
  have v1 : IntKind.i64.wrap 1 = 1 := rfl
  have v2 : IntKind.i64.wrap 2 = 2 := rfl
  have v3 : IntKind.i64.wrap 3 = 3 := rfl
  have v4 : IntKind.i64.wrap 4 = 4 := rfl
  refine cps fun Q hQ => ?_
  go_enter Tryz.func35, Tryz.ntmps35
  go_upto_region 3 with (go_at_call 62; go_must (refine (k0 _).mono ?_); rintro e wa ⟨rfl, hb1⟩; have RA_0 := (hb1.block (w.heap.size) (by first | (simp; done) | (simp; omega) | omega)).trans ((Below.heap_alloc _ _ _ (by first | (simp; done) | (simp; omega) | omega)).trans ((Below.heap_alloc _ _ _ (by first | (simp; done) | (simp; omega) | omega)).trans (rownew' _ _ _ _ (by simp)))); have za_0 : w.heap.size < wa.heap.size := Nat.lt_of_lt_of_le (by first | (simp; done) | (simp; omega) | omega) hb1.size; have ca_0_0 := rowcell RA_0 0; have ca_0_1 := rowcell RA_0 1; have ca_0_2 := rowcell RA_0 2; have ca_0_3 := rowcell RA_0 3; have ca_0_4 := rowcell RA_0 4; have ca_0_5 := rowcell RA_0 5; simp only [List.getElem?_toArray, List.getElem?_cons_zero, List.getElem?_cons_succ] at ca_0_0 ca_0_1 ca_0_2 ca_0_3 ca_0_4 ca_0_5; have HA1_0 : Hid _ := RA_0; clear RA_0; have RA_1 := (hb1.block (w.heap.size + 1) (by first | (simp; done) | (simp; omega) | omega)).trans ((Below.heap_alloc _ _ _ (by first | (simp; done) | (simp; omega) | omega)).trans (rownew' _ _ _ _ (by simp))); have za_1 : w.heap.size + 1 < wa.heap.size := Nat.lt_of_lt_of_le (by first | (simp; done) | (simp; omega) | omega) hb1.size; have ca_1_0 := rowcell RA_1 0; have ca_1_1 := rowcell RA_1 1; have ca_1_2 := rowcell RA_1 2; have ca_1_3 := rowcell RA_1 3; have ca_1_4 := rowcell RA_1 4; have ca_1_5 := rowcell RA_1 5; simp only [List.getElem?_toArray, List.getElem?_cons_zero, List.getElem?_cons_succ] at ca_1_0 ca_1_1 ca_1_2 ca_1_3 ca_1_4 ca_1_5; have HA1_1 : Hid _ := RA_1; clear RA_1; have RA_2 := (hb1.block (w.heap.size + 1 + 1) (by first | (simp; done) | (simp; omega) | omega)).trans (rownew' _ _ _ _ (by simp)); have za_2 : w.heap.size + 1 + 1 < wa.heap.size := Nat.lt_of_lt_of_le (by first | (simp; done) | (simp; omega) | omega) hb1.size; have HA1_2 : Hid _ := RA_2; clear RA_2; have HA1 : Hid (Below _ _ _) := hb1; clear hb1; have fr0 := rowfree HA1_0.out; have fr1 := rowfree HA1_1.out; have fr2 := rowfree HA1_2.out)
  generalize hw1 : World.setCell _ _ _ = w1
  have HR1_0 : Hid (w1.heap[w.heap.size]? = some (.cells #[.int .i64 1, .bool ng, .int .i64 sg, .int .u64 hg, .int .u64 lg, .bool false] 39 (0, 0))) := by show _ = _; rw [← hw1]; exact rowE6_other (rowE6 HA1_0.out) (by omega)
  have HR1_1 : Hid (w1.heap[w.heap.size + 1]? = some (.cells #[.int .i64 1, .bool nl, .int .i64 sl, .int .u64 hl, .int .u64 ll, .bool false] 39 (0, 0))) := by show _ = _; rw [← hw1]; exact rowE6 (rowE6_other HA1_1.out (by omega))
  have HR1_2 : Hid (w1.heap[w.heap.size + 1 + 1]? = some (.cells #[.int .i64 0, .bool false, .int .i64 0, .int .u64 0, .int .u64 0, .bool false] 39 (0, 0))) := by show _ = _; rw [← hw1]; exact rowE6_other (rowE6_other HA1_2.out (by omega)) (by omega)
  have HBW : Hid (Below w.heap.size w w1) := by show Below _ _ _; rw [← hw1]; exact cset6 (cset6 (cthen (cmore (cmore (cmore (Below.refl _ _) _) _) _) HA1.out) (Nat.le_refl _)) (by omega)
  clear ca_0_0 ca_0_1 ca_0_2 ca_0_3 ca_0_4 ca_0_5 ca_1_0 ca_1_1 ca_1_2 ca_1_3 ca_1_4 ca_1_5 fr0 fr1 fr2 hw1 za_0 za_1 za_2
  have z1_0 : w.heap.size < w1.heap.size := rowlt HR1_0.out
  have z1_1 : w.heap.size + 1 < w1.heap.size := rowlt HR1_1.out
  have z1_2 : w.heap.size + 1 + 1 < w1.heap.size := rowlt HR1_2.out
  have x0_ := rowcell HR1_0.out 0
  have x1_ := rowcell HR1_0.out 1
  have x2_ := rowcell HR1_0.out 2
  have x3_ := rowcell HR1_0.out 3
  have x4_ := rowcell HR1_0.out 4
  have x5_ := rowcell HR1_0.out 5
  simp only [List.getElem?_toArray, List.getElem?_cons_zero, List.getElem?_cons_succ] at x0_ x1_ x2_ x3_ x4_ x5_
  go_upto_region 4 with (first
    | (go_at_call 63; have chk := HB2; go_must (refine (k1 _).mono ?_); rintro e w3 ⟨rfl, hb3⟩; have R3_0 := (hb3.block (w.heap.size) (by first | (simp; done) | (simp; omega) | omega)).trans HR2_0.out; have z3_0 : w.heap.size < w3.heap.size := Nat.lt_of_lt_of_le (by first | (simp; done) | (simp; omega) | omega) hb3.size; have HR3_0 : Hid _ := R3_0; clear R3_0; have R3_1 := (hb3.block (w.heap.size + 1) (by first | (simp; done) | (simp; omega) | omega)).trans HR2_1.out; have z3_1 : w.heap.size + 1 < w3.heap.size := Nat.lt_of_lt_of_le (by first | (simp; done) | (simp; omega) | omega) hb3.size; have HR3_1 : Hid _ := R3_1; clear R3_1; have R3_2 := (hb3.block (w.heap.size + 1 + 1) (by first | (simp; done) | (simp; omega) | omega)).trans HR2_2.out; have z3_2 : w.heap.size + 1 + 1 < w3.heap.size := Nat.lt_of_lt_of_le (by first | (simp; done) | (simp; omega) | omega) hb3.size; have HR3_2 : Hid _ := R3_2; clear R3_2; have HB3 : Hid (Below _ _ _) := hb3; clear hb3)
    | (go_at_call 64; go_must (refine (dg _).mono ?_); rintro e w2 ⟨rfl, hb2⟩; have R2_0 := (hb2.block (w.heap.size) (by first | (simp; done) | (simp; omega) | omega)).trans HR1_0.out; have z2_0 : w.heap.size < w2.heap.size := Nat.lt_of_lt_of_le (by first | (simp; done) | (simp; omega) | omega) hb2.size; have HR2_0 : Hid _ := R2_0; clear R2_0; have R2_1 := (hb2.block (w.heap.size + 1) (by first | (simp; done) | (simp; omega) | omega)).trans HR1_1.out; have z2_1 : w.heap.size + 1 < w2.heap.size := Nat.lt_of_lt_of_le (by first | (simp; done) | (simp; omega) | omega) hb2.size; have HR2_1 : Hid _ := R2_1; clear R2_1; have R2_2 := (hb2.block (w.heap.size + 1 + 1) (by first | (simp; done) | (simp; omega) | omega)).trans HR1_2.out; have z2_2 : w.heap.size + 1 + 1 < w2.heap.size := Nat.lt_of_lt_of_le (by first | (simp; done) | (simp; omega) | omega) hb2.size; have HR2_2 : Hid _ := R2_2; clear R2_2; have HB2 : Hid (Below _ _ _) := hb2; clear hb2))
  clear x0_ x1_ x2_ x3_ x4_ x5_
  generalize hw4 : World.alloc w3 _ = w4
  have HR4_0 := (show Hid _ from (by rw [← hw4]; exact (Below.heap_alloc _ _ _ (by omega)).trans HR3_0.out : w4.heap[w.heap.size]? = some (.cells #[.int .i64 1, .bool ng, .int .i64 sg, .int .u64 hg, .int .u64 lg, .bool false] 39 (0, 0))))
  have HR4_1 := (show Hid _ from (by rw [← hw4]; exact (Below.heap_alloc _ _ _ (by omega)).trans HR3_1.out : w4.heap[w.heap.size + 1]? = some (.cells #[.int .i64 1, .bool nl, .int .i64 sl, .int .u64 hl, .int .u64 ll, .bool false] 39 (0, 0))))
  have HR4_2 := (show Hid _ from (by rw [← hw4]; exact (Below.heap_alloc _ _ _ (by omega)).trans HR3_2.out : w4.heap[w.heap.size + 1 + 1]? = some (.cells #[.int .i64 0, .bool false, .int .i64 0, .int .u64 0, .int .u64 0, .bool false] 39 (0, 0))))
  have HR4_3 := (show Hid _ from (by rw [← hw4]; exact rownew _ _ _ : w4.heap[w3.heap.size]? = some (.cells #[.int .u64 a0, .int .u64 a1, .int .u64 a2, .int .u64 a3, .int .u64 a4] 104 (0, 0))))
  have HBX : Hid (Below w.heap.size w w4) := by show Below _ _ _; rw [← hw4]; exact cmore (cthen (cthen (HBW.out) HB2.out) HB3.out) _
  clear hw4
  have y4_0 : w.heap.size < w4.heap.size := rowlt HR4_0.out
  have y4_1 : w.heap.size + 1 < w4.heap.size := rowlt HR4_1.out
  have y4_2 : w.heap.size + 1 + 1 < w4.heap.size := rowlt HR4_2.out
  have y4_3 : w3.heap.size < w4.heap.size := rowlt HR4_3.out
  have cls : ∀ V, Below w4.heap.size w4 V → V.cell? ⟨w.heap.size, 2, none⟩ = some (.int .i64 sg) ∧ V.cell? ⟨w.heap.size + 1, 0, none⟩ = some (.int .i64 1) ∧ V.cell? ⟨w.heap.size + 1, 1, none⟩ = some (.bool nl) ∧ V.cell? ⟨w.heap.size + 1, 2, none⟩ = some (.int .i64 sl) ∧ V.cell? ⟨w.heap.size + 1, 3, none⟩ = some (.int .u64 hl) ∧ V.cell? ⟨w.heap.size + 1, 4, none⟩ = some (.int .u64 ll) ∧ V.cell? ⟨w.heap.size + 1, 5, none⟩ = some (.bool false) := fun V hV => by
    have q0 := (hV.block (w.heap.size) y4_0).trans HR4_0.out
    have q1 := (hV.block (w.heap.size + 1) y4_1).trans HR4_1.out
    exact ⟨rowcell q0 2, rowcell q1 0, rowcell q1 1, rowcell q1 2, rowcell q1 3, rowcell q1 4, rowcell q1 5⟩
  have B4 : Below w4.heap.size w4 w4 := Below.refl _ _
  go_cut [7] from 19 (fun s7 wx => ∃ n : Nat, s7 = .pointer (some ⟨n, 0, none⟩) ∧ Hid (Below w4.heap.size w4 wx) ∧ w4.heap.size ≤ n ∧ Hid (wx.heap[n]? = some (.cells #[.int .u64 y0, .int .u64 y1, .int .u64 y2, .int .u64 y3, .int .u64 y4] 104 (0, 0))))
  case first =>
    refine wpC_region (fun V => V.cell? ⟨w.heap.size, 2, none⟩ = some (.int .i64 sg) ∧ V.cell? ⟨w.heap.size + 1, 0, none⟩ = some (.int .i64 1) ∧ V.cell? ⟨w.heap.size + 1, 1, none⟩ = some (.bool nl) ∧ V.cell? ⟨w.heap.size + 1, 2, none⟩ = some (.int .i64 sl) ∧ V.cell? ⟨w.heap.size + 1, 3, none⟩ = some (.int .u64 hl) ∧ V.cell? ⟨w.heap.size + 1, 4, none⟩ = some (.int .u64 ll) ∧ V.cell? ⟨w.heap.size + 1, 5, none⟩ = some (.bool false)) (by kernel_rfl) ?_
    refine wpC_take 0 (v := ?_) rfl (by kernel_rfl) (fun _ _ _ h => h) (by kernel_rfl) ?_ ?_; rotate_left; · (intro wC hC; obtain ⟨d0, d1, d2, d3, d4, d5, d6⟩ := hC; go_simp <;> with_reducible rfl)
    refine wpC_take 2 (v := ?_) rfl (by kernel_rfl) (fun _ _ _ h => h) (by kernel_rfl) ?_ ?_; rotate_left; · (intro wC hC; obtain ⟨d0, d1, d2, d3, d4, d5, d6⟩ := hC; go_simp <;> with_reducible rfl)
    refine wpC_take 3 (v := ?_) rfl (by kernel_rfl) (fun _ _ _ h => h) (by kernel_rfl) ?_ ?_; rotate_left; · (intro wC hC; obtain ⟨d0, d1, d2, d3, d4, d5, d6⟩ := hC; go_simp <;> with_reducible rfl)
    refine wpC_take 4 (v := ?_) rfl (by kernel_rfl) (fun _ _ _ h => h) (by kernel_rfl) ?_ ?_; rotate_left; · (intro wC hC; obtain ⟨d0, d1, d2, d3, d4, d5, d6⟩ := hC; go_simp <;> with_reducible rfl)
    refine wpC_take 5 (v := ?_) rfl (by kernel_rfl) (fun _ _ _ h => h) (by kernel_rfl) ?_ ?_; rotate_left; · (intro wC hC; obtain ⟨d0, d1, d2, d3, d4, d5, d6⟩ := hC; go_simp <;> with_reducible rfl)
    refine wpC_take 6 (v := ?_) rfl (by kernel_rfl) (fun _ _ _ h => h) (by kernel_rfl) ?_ ?_; rotate_left; · (intro wC hC; obtain ⟨d0, d1, d2, d3, d4, d5, d6⟩ := hC; go_simp <;> with_reducible rfl)
    refine wpC_take 7 (v := ?_) rfl (by kernel_rfl) (fun _ _ _ h => h) (by kernel_rfl) ?_ ?_; rotate_left; · (intro wC hC; obtain ⟨d0, d1, d2, d3, d4, d5, d6⟩ := hC; go_simp <;> with_reducible rfl)
    refine wpC_take 8 (v := ?_) rfl (by kernel_rfl) (fun _ _ _ h => h) (by kernel_rfl) ?_ ?_; rotate_left; · (intro wC hC; obtain ⟨d0, d1, d2, d3, d4, d5, d6⟩ := hC; go_simp <;> with_reducible rfl)
    refine wpC_two 1 10 rfl rfl (by kernel_rfl) (by kernel_rfl) (by kernel_rfl) (cls _ (bdrew B4)) (fun K hK => ?_) (fun K hK => ?_)
    · skip
      go_simp
      go_wp2_with ((go_at_call 64; refine (dl _).mono ?_; rintro e w5 ⟨rfl, hb5⟩; have B5 := bthen (bdrew B4) hb5))
      try (refine hK _ _ ?_; clear hK K)
      refine wpC_two 9 10 rfl rfl (by kernel_rfl) (by kernel_rfl) (by kernel_rfl) (cls _ B5) (fun K hK => ?_) (fun K hK => ?_)
      · skip
        go_simp
        go_wp2_with ((go_at_call 63; refine (k2 _).mono ?_; rintro e w6 ⟨rfl, hb6⟩; have B6 := bthen (B5) hb6))
        try (refine hK _ _ ?_; clear hK K)
        refine wpC_step 10 rfl (by kernel_rfl) (by kernel_rfl) (cls _ B6) (fun K hK => ?_)
        go_simp
        try (refine hK _ _ ?_; clear hK K)
        refine wpC_step 11 rfl (by kernel_rfl) (by kernel_rfl) (cls _ (bmore B6 _)) (fun K hK => ?_)
        go_simp
        try (refine hK _ _ ?_; clear hK K)
        refine wpC_done (by kernel_rfl) (cls _ (bmore B6 _)) ?_
        go_wp2_with fail
        go_meet
        case rel => exact ⟨_, rfl, bmore B6 _, B6.size, rownew _ _ _⟩
      · skip
        go_simp
        try (refine hK _ _ ?_; clear hK K)
        refine wpC_step 9 rfl (by kernel_rfl) (by kernel_rfl) (cls _ (bmore B5 _)) (fun K hK => ?_)
        go_simp
        go_wp2_with ((go_at_call 63; refine (k2 _).mono ?_; rintro e w6 ⟨rfl, hb6⟩; have B6 := bthen (bmore B5 _) hb6; have R6 := (hb6.block (w5.heap.size) (by simp)).trans (rownew _ _ _); have rf := rowfree R6; have rl := rowlt R6; have rc0 := rowcell R6 0; have rc1 := rowcell R6 1; have rc2 := rowcell R6 2; have rc3 := rowcell R6 3; have rc4 := rowcell R6 4; simp only [List.getElem?_toArray, List.getElem?_cons_zero, List.getElem?_cons_succ] at rc0 rc1 rc2 rc3 rc4))
        try (refine hK _ _ ?_; clear hK K)
        have y5 := B5.size
        refine wpC_step 11 rfl (by kernel_rfl) (by kernel_rfl) (cls _ B6) (fun K hK => ?_)
        go_simp
        try (refine hK _ _ ?_; clear hK K)
        refine wpC_done (by kernel_rfl) (cls _ (cset5 B6 y5)) ?_
        go_wp2_with fail
        go_meet
        case rel => exact ⟨_, rfl, cset5 B6 y5, y5, row5 R6⟩
    · skip
      go_simp
      try (refine hK _ _ ?_; clear hK K)
      refine wpC_step 1 rfl (by kernel_rfl) (by kernel_rfl) (cls _ (bmore (bdrew B4) _)) (fun K hK => ?_)
      go_simp
      go_wp2_with ((go_at_call 64; refine (dl _).mono ?_; rintro e w5 ⟨rfl, hb5⟩; have B5 := bthen (bmore (bdrew B4) _) hb5; have R5 := (hb5.block (w4.heap.size) (by simp)).trans (rownew _ _ _); have y5 := rowlt R5))
      try (refine hK _ _ ?_; clear hK K)
      refine wpC_step 9 rfl (by kernel_rfl) (by kernel_rfl) (cls _ B5) (fun K hK => ?_)
      go_simp
      go_wp2_with ((go_at_call 63; refine (k2 _).mono ?_; rintro e w6 ⟨rfl, hb6⟩; have B6 := bthen (B5) hb6; have R6 := (hb6.block (w4.heap.size) y5).trans (R5); have rf := rowfree R6; have rl := rowlt R6; have rc0 := rowcell R6 0; have rc1 := rowcell R6 1; have rc2 := rowcell R6 2; have rc3 := rowcell R6 3; have rc4 := rowcell R6 4; simp only [List.getElem?_toArray, List.getElem?_cons_zero, List.getElem?_cons_succ] at rc0 rc1 rc2 rc3 rc4))
      try (refine hK _ _ ?_; clear hK K)
      refine wpC_step 11 rfl (by kernel_rfl) (by kernel_rfl) (cls _ B6) (fun K hK => ?_)
      go_simp
      try (refine hK _ _ ?_; clear hK K)
      refine wpC_done (by kernel_rfl) (cls _ (cset5 B6 (Nat.le_refl _))) ?_
      go_wp2_with fail
      go_meet
      case rel => exact ⟨_, rfl, cset5 B6 (Nat.le_refl _), Nat.le_refl _, row5 R6⟩
  case rest =>
    obtain ⟨n, rfl, hbx, hn, hrx⟩ := hcut
    have HB4 : Hid (Below w4.heap.size w4 wc) := hbx.out
    have HR5_0 := (show Hid _ from (hbx.out.block (w.heap.size) y4_0).trans HR4_0.out)
    have HR5_1 := (show Hid _ from (hbx.out.block (w.heap.size + 1) y4_1).trans HR4_1.out)
    have HR5_2 := (show Hid _ from (hbx.out.block (w.heap.size + 1 + 1) y4_2).trans HR4_2.out)
    have HR5_3 := (show Hid _ from (hbx.out.block (w3.heap.size) y4_3).trans HR4_3.out)
    have HR5_4 := hrx
    have z5_0 : w.heap.size < wc.heap.size := rowlt HR5_0.out
    have z5_1 : w.heap.size + 1 < wc.heap.size := rowlt HR5_1.out
    have z5_2 : w.heap.size + 1 + 1 < wc.heap.size := rowlt HR5_2.out
    have z5_3 : w3.heap.size < wc.heap.size := rowlt HR5_3.out
    have z5_4 : n < wc.heap.size := rowlt HR5_4.out
    have y5_3 : w.heap.size + 1 + 1 < w3.heap.size := by omega
    have HBY : Hid (Below w.heap.size w wc) := cthen HBX.out HB4.out
    clear hbx hrx cls B4 HBX HB4
    have k3_0 := rowcell HR5_3.out 0
    have k3_1 := rowcell HR5_3.out 1
    have k3_2 := rowcell HR5_3.out 2
    have k3_3 := rowcell HR5_3.out 3
    have k3_4 := rowcell HR5_3.out 4
    have k4_0 := rowcell HR5_4.out 0
    have k4_1 := rowcell HR5_4.out 1
    have k4_2 := rowcell HR5_4.out 2
    have k4_3 := rowcell HR5_4.out 3
    have k4_4 := rowcell HR5_4.out 4
    have k0_1 := rowcell HR5_0.out 1
    have k1_1 := rowcell HR5_1.out 1
    simp only [List.getElem?_toArray, List.getElem?_cons_zero, List.getElem?_cons_succ] at k0_1 k1_1 k3_0 k3_1 k3_2 k3_3 k3_4 k4_0 k4_1 k4_2 k4_3 k4_4
    go_wp2_with (first
      | (go_at_call 65; go_must (refine (k3 _).mono ?_); rintro e w6 ⟨rfl, hb6⟩; have R6_0 := (hb6.block (w.heap.size) (by first | (simp; done) | (simp; omega) | omega)).trans HR5_0.out; have z6_0 : w.heap.size < w6.heap.size := Nat.lt_of_lt_of_le (by first | (simp; done) | (simp; omega) | omega) hb6.size; have c6_0_1 := rowcell R6_0 1; simp only [List.getElem?_toArray, List.getElem?_cons_zero, List.getElem?_cons_succ] at c6_0_1; have HR6_0 : Hid _ := R6_0; clear R6_0; have R6_1 := (hb6.block (w.heap.size + 1) (by first | (simp; done) | (simp; omega) | omega)).trans HR5_1.out; have z6_1 : w.heap.size + 1 < w6.heap.size := Nat.lt_of_lt_of_le (by first | (simp; done) | (simp; omega) | omega) hb6.size; have c6_1_1 := rowcell R6_1 1; simp only [List.getElem?_toArray, List.getElem?_cons_zero, List.getElem?_cons_succ] at c6_1_1; have HR6_1 : Hid _ := R6_1; clear R6_1; have R6_2 := (hb6.block (w.heap.size + 1 + 1) (by first | (simp; done) | (simp; omega) | omega)).trans HR5_2.out; have z6_2 : w.heap.size + 1 + 1 < w6.heap.size := Nat.lt_of_lt_of_le (by first | (simp; done) | (simp; omega) | omega) hb6.size; have HR6_2 : Hid _ := R6_2; clear R6_2; have R6_3 := (hb6.block (w3.heap.size) (by first | (simp; done) | (simp; omega) | omega)).trans HR5_3.out; have z6_3 : w3.heap.size < w6.heap.size := Nat.lt_of_lt_of_le (by first | (simp; done) | (simp; omega) | omega) hb6.size; have c6_3_0 := rowcell R6_3 0; have c6_3_1 := rowcell R6_3 1; have c6_3_2 := rowcell R6_3 2; have c6_3_3 := rowcell R6_3 3; have c6_3_4 := rowcell R6_3 4; simp only [List.getElem?_toArray, List.getElem?_cons_zero, List.getElem?_cons_succ] at c6_3_0 c6_3_1 c6_3_2 c6_3_3 c6_3_4; have HR6_3 : Hid _ := R6_3; clear R6_3; have R6_4 := (hb6.block (n) (by first | (simp; done) | (simp; omega) | omega)).trans HR5_4.out; have z6_4 : n < w6.heap.size := Nat.lt_of_lt_of_le (by first | (simp; done) | (simp; omega) | omega) hb6.size; have c6_4_0 := rowcell R6_4 0; have c6_4_1 := rowcell R6_4 1; have c6_4_2 := rowcell R6_4 2; have c6_4_3 := rowcell R6_4 3; have c6_4_4 := rowcell R6_4 4; simp only [List.getElem?_toArray, List.getElem?_cons_zero, List.getElem?_cons_succ] at c6_4_0 c6_4_1 c6_4_2 c6_4_3 c6_4_4; have HR6_4 : Hid _ := R6_4; clear R6_4; have HB6 : Hid (Below _ _ _) := hb6; clear hb6)
      | (go_at_call 66; go_must (refine (k4 _).mono ?_); rintro e w7 ⟨rfl, hb7⟩; have R7_0 := (hb7.block (w.heap.size) (by first | (simp; done) | (simp; omega) | omega)).trans ((Below.heap_alloc _ _ _ (by first | (simp; done) | (simp; omega) | omega)).trans HR6_0.out); have z7_0 : w.heap.size < w7.heap.size := Nat.lt_of_lt_of_le (by first | (simp; done) | (simp; omega) | omega) hb7.size; have HR7_0 : Hid _ := R7_0; clear R7_0; have R7_1 := (hb7.block (w.heap.size + 1) (by first | (simp; done) | (simp; omega) | omega)).trans ((Below.heap_alloc _ _ _ (by first | (simp; done) | (simp; omega) | omega)).trans HR6_1.out); have z7_1 : w.heap.size + 1 < w7.heap.size := Nat.lt_of_lt_of_le (by first | (simp; done) | (simp; omega) | omega) hb7.size; have HR7_1 : Hid _ := R7_1; clear R7_1; have R7_2 := (hb7.block (w.heap.size + 1 + 1) (by first | (simp; done) | (simp; omega) | omega)).trans ((Below.heap_alloc _ _ _ (by first | (simp; done) | (simp; omega) | omega)).trans HR6_2.out); have z7_2 : w.heap.size + 1 + 1 < w7.heap.size := Nat.lt_of_lt_of_le (by first | (simp; done) | (simp; omega) | omega) hb7.size; have HR7_2 : Hid _ := R7_2; clear R7_2; have R7_3 := (hb7.block (w3.heap.size) (by first | (simp; done) | (simp; omega) | omega)).trans ((Below.heap_alloc _ _ _ (by first | (simp; done) | (simp; omega) | omega)).trans HR6_3.out); have z7_3 : w3.heap.size < w7.heap.size := Nat.lt_of_lt_of_le (by first | (simp; done) | (simp; omega) | omega) hb7.size; have HR7_3 : Hid _ := R7_3; clear R7_3; have R7_4 := (hb7.block (n) (by first | (simp; done) | (simp; omega) | omega)).trans ((Below.heap_alloc _ _ _ (by first | (simp; done) | (simp; omega) | omega)).trans HR6_4.out); have z7_4 : n < w7.heap.size := Nat.lt_of_lt_of_le (by first | (simp; done) | (simp; omega) | omega) hb7.size; have HR7_4 : Hid _ := R7_4; clear R7_4; have R7_5 := (hb7.block (w6.heap.size) (by first | (simp; done) | (simp; omega) | omega)).trans (rownew' _ _ _ _ (by simp)); have z7_5 : w6.heap.size < w7.heap.size := Nat.lt_of_lt_of_le (by first | (simp; done) | (simp; omega) | omega) hb7.size; have c7_5_0 := rowcell R7_5 0; have c7_5_1 := rowcell R7_5 1; have c7_5_2 := rowcell R7_5 2; have c7_5_3 := rowcell R7_5 3; have c7_5_4 := rowcell R7_5 4; simp only [List.getElem?_toArray, List.getElem?_cons_zero, List.getElem?_cons_succ] at c7_5_0 c7_5_1 c7_5_2 c7_5_3 c7_5_4; have HR7_5 : Hid _ := R7_5; clear R7_5; have HB7 : Hid (Below _ _ _) := hb7; clear hb7; have f5 := rowfree HR7_5.out; have f2 := rowfree HR7_2.out)
      | (go_at_call 67; go_must (refine (k5 _).mono ?_); rintro e w8 ⟨rfl, hb8⟩; have R8_0 := (hb8.block (w.heap.size) (by first | (simp; done) | (simp; omega) | omega)).trans (row5_other HR7_0.out (by omega)); have z8_0 : w.heap.size < w8.heap.size := Nat.lt_of_lt_of_le (by first | (simp; done) | (simp; omega) | omega) hb8.size; have c8_0_1 := rowcell R8_0 1; have c8_0_2 := rowcell R8_0 2; simp only [List.getElem?_toArray, List.getElem?_cons_zero, List.getElem?_cons_succ] at c8_0_1 c8_0_2; have HR8_0 : Hid _ := R8_0; clear R8_0; have R8_1 := (hb8.block (w.heap.size + 1) (by first | (simp; done) | (simp; omega) | omega)).trans (row5_other HR7_1.out (by omega)); have z8_1 : w.heap.size + 1 < w8.heap.size := Nat.lt_of_lt_of_le (by first | (simp; done) | (simp; omega) | omega) hb8.size; have HR8_1 : Hid _ := R8_1; clear R8_1; have R8_2 := (hb8.block (w.heap.size + 1 + 1) (by first | (simp; done) | (simp; omega) | omega)).trans (row5_other HR7_2.out (by omega)); have z8_2 : w.heap.size + 1 + 1 < w8.heap.size := Nat.lt_of_lt_of_le (by first | (simp; done) | (simp; omega) | omega) hb8.size; have HR8_2 : Hid _ := R8_2; clear R8_2; have R8_3 := (hb8.block (w3.heap.size) (by first | (simp; done) | (simp; omega) | omega)).trans (row5_other HR7_3.out (by omega)); have z8_3 : w3.heap.size < w8.heap.size := Nat.lt_of_lt_of_le (by first | (simp; done) | (simp; omega) | omega) hb8.size; have HR8_3 : Hid _ := R8_3; clear R8_3; have R8_4 := (hb8.block (n) (by first | (simp; done) | (simp; omega) | omega)).trans (row5_other HR7_4.out (by omega)); have z8_4 : n < w8.heap.size := Nat.lt_of_lt_of_le (by first | (simp; done) | (simp; omega) | omega) hb8.size; have HR8_4 : Hid _ := R8_4; clear R8_4; have R8_5 := (hb8.block (w6.heap.size) (by first | (simp; done) | (simp; omega) | omega)).trans (row5 HR7_5.out); have z8_5 : w6.heap.size < w8.heap.size := Nat.lt_of_lt_of_le (by first | (simp; done) | (simp; omega) | omega) hb8.size; have c8_5_0 := rowcell R8_5 0; have c8_5_1 := rowcell R8_5 1; have c8_5_2 := rowcell R8_5 2; have c8_5_3 := rowcell R8_5 3; have c8_5_4 := rowcell R8_5 4; simp only [List.getElem?_toArray, List.getElem?_cons_zero, List.getElem?_cons_succ] at c8_5_0 c8_5_1 c8_5_2 c8_5_3 c8_5_4; have HR8_5 : Hid _ := R8_5; clear R8_5; have HB8 : Hid (Below _ _ _) := hb8; clear hb8; have g5 := rowfree HR8_5.out; have g2 := rowfree HR8_2.out)
      | (go_at_call 50; go_must (refine (k6 _).mono ?_); rintro e w9 ⟨rfl, hb9⟩; have R9_0 := (hb9.block (w.heap.size) (by first | (simp; done) | (simp; omega) | omega)).trans (row5_other HR8_0.out (by omega)); have z9_0 : w.heap.size < w9.heap.size := Nat.lt_of_lt_of_le (by first | (simp; done) | (simp; omega) | omega) hb9.size; have HR9_0 : Hid _ := R9_0; clear R9_0; have R9_1 := (hb9.block (w.heap.size + 1) (by first | (simp; done) | (simp; omega) | omega)).trans (row5_other HR8_1.out (by omega)); have z9_1 : w.heap.size + 1 < w9.heap.size := Nat.lt_of_lt_of_le (by first | (simp; done) | (simp; omega) | omega) hb9.size; have HR9_1 : Hid _ := R9_1; clear R9_1; have R9_2 := (hb9.block (w.heap.size + 1 + 1) (by first | (simp; done) | (simp; omega) | omega)).trans (row5_other HR8_2.out (by omega)); have z9_2 : w.heap.size + 1 + 1 < w9.heap.size := Nat.lt_of_lt_of_le (by first | (simp; done) | (simp; omega) | omega) hb9.size; have c9_2_0 := rowcell R9_2 0; have c9_2_1 := rowcell R9_2 1; have c9_2_2 := rowcell R9_2 2; have c9_2_3 := rowcell R9_2 3; have c9_2_4 := rowcell R9_2 4; have c9_2_5 := rowcell R9_2 5; simp only [List.getElem?_toArray, List.getElem?_cons_zero, List.getElem?_cons_succ] at c9_2_0 c9_2_1 c9_2_2 c9_2_3 c9_2_4 c9_2_5; have HR9_2 : Hid _ := R9_2; clear R9_2; have R9_3 := (hb9.block (w3.heap.size) (by first | (simp; done) | (simp; omega) | omega)).trans (row5_other HR8_3.out (by omega)); have z9_3 : w3.heap.size < w9.heap.size := Nat.lt_of_lt_of_le (by first | (simp; done) | (simp; omega) | omega) hb9.size; have HR9_3 : Hid _ := R9_3; clear R9_3; have R9_4 := (hb9.block (n) (by first | (simp; done) | (simp; omega) | omega)).trans (row5_other HR8_4.out (by omega)); have z9_4 : n < w9.heap.size := Nat.lt_of_lt_of_le (by first | (simp; done) | (simp; omega) | omega) hb9.size; have HR9_4 : Hid _ := R9_4; clear R9_4; have R9_5 := (hb9.block (w6.heap.size) (by first | (simp; done) | (simp; omega) | omega)).trans (row5 HR8_5.out); have z9_5 : w6.heap.size < w9.heap.size := Nat.lt_of_lt_of_le (by first | (simp; done) | (simp; omega) | omega) hb9.size; have HR9_5 : Hid _ := R9_5; clear R9_5; have HB9 : Hid (Below _ _ _) := hb9; clear hb9; have m2 := rowfree HR9_2.out))
    refine bodyPost_ret (v := .tuple #[.agg #[.int .i64 K, .bool B, .int .i64 S, .int .u64 H, .int .u64 L, .bool T], .nilIface]) (by simp [results, Tryz.results35, go_sem, c9_2_0, c9_2_1, c9_2_2, c9_2_3, c9_2_4, c9_2_5, m2, z9_2]; done) rfl (hQ.out _ _ ⟨rfl, ?_⟩)
    exact cset6 (cthen (cset5 (cthen (cset5 (cthen (cmore (cthen (HBY.out) HB6.out) _) HB7.out) (by omega)) HB8.out) (by omega)) HB9.out) (by omega)
set_option maxHeartbeats 8000000 in
theorem freals_swap_zero (ng : Bool) (sg : Int) (hg lg : Nat) (nl : Bool) (sl : Int) (hl ll : Nat) (zz D E : Int) (kk : Nat) (a0 a1 a2 a3 a4 y0 y1 y2 y3 y4 p0 p1 p2 p3 p4 : Nat) (m0 m1 m2 m3 m4 : Nat)
    (k0 : ∀ w, Calls Tryz.prog 62 #[exV 1 nl sl hl ll false, exV 1 ng sg hg lg false] w fun e w' => e = .returned (.int .i64 zz) ∧ Below w.heap.size w w')
    (hz : decide (zz < 0) = true)
    (k1 : ∀ w, Calls Tryz.prog 63 #[.agg #[.int .u64 hg, .int .u64 lg], .int .i64 191] w fun e w' => e = .returned (.agg #[.int .u64 a0, .int .u64 a1, .int .u64 a2, .int .u64 a3, .int .u64 a4]) ∧ Below w.heap.size w w')
    (q1 : IntKind.i64.wrap (sg - sl) = D) (q2 : IntKind.i64.wrap (191 - D) = E) (q3 : (if E < 0 then 0 else E) = (kk : Int))
    (k2 : ∀ w, Calls Tryz.prog 63 #[.agg #[.int .u64 hl, .int .u64 ll], .int .i64 kk] w fun e w' => e = .returned (.agg #[.int .u64 y0, .int .u64 y1, .int .u64 y2, .int .u64 y3, .int .u64 y4]) ∧ Below w.heap.size w w')
    (k3 : ∀ w, Calls Tryz.prog 65 #[.agg #[.int .u64 a0, .int .u64 a1, .int .u64 a2, .int .u64 a3, .int .u64 a4], .agg #[.int .u64 y0, .int .u64 y1, .int .u64 y2, .int .u64 y3, .int .u64 y4]] w fun e w' => e = .returned (.agg #[.int .u64 p0, .int .u64 p1, .int .u64 p2, .int .u64 p3, .int .u64 p4]) ∧ Below w.heap.size w w')
    (hs : (ng == nl) = false)
    (k4 : ∀ w, Calls Tryz.prog 66 #[.agg #[.int .u64 a0, .int .u64 a1, .int .u64 a2, .int .u64 a3, .int .u64 a4], .agg #[.int .u64 y0, .int .u64 y1, .int .u64 y2, .int .u64 y3, .int .u64 y4]] w fun e w' => e = .returned (.agg #[.int .u64 m0, .int .u64 m1, .int .u64 m2, .int .u64 m3, .int .u64 m4]) ∧ Below w.heap.size w w')
    (h0 : (decide ((m0 : Int) = 0) && decide ((m1 : Int) = 0) && decide ((m2 : Int) = 0) && decide ((m3 : Int) = 0) && decide ((m4 : Int) = 0)) = true) (w : World) :
    Calls Tryz.prog 35 #[exV 1 nl sl hl ll false, exV 1 ng sg hg lg false] w fun e w' => e = .returned (.tuple #[exV 0 false 0 0 0 false, .nilIface]) ∧ Below w.heap.size w w' := by
  have dg := fdigits_any 1 ng sg hg lg false
  have dl := fdigits_any 1 nl sl hl ll false
  unfold exV at *
  rw [show ((0 : Nat) : Int) = 0 from rfl] at *
  have heq := eql5_words m0 m1 m2 m3 m4
  rw [h0] at heq
  have v0 : IntKind.i64.wrap 0 = 0 := rfl
  have v1 : IntKind.i64.wrap 1 = 1 := rfl
  have v2 : IntKind.i64.wrap 2 = 2 := rfl
  have v3 : IntKind.i64.wrap 3 = 3 := rfl
  have v4 : IntKind.i64.wrap 4 = 4 := rfl
  refine cps fun Q hQ => ?_
  go_enter Tryz.func35, Tryz.ntmps35
  go_upto_region 3 with (go_at_call 62; go_must (refine (k0 _).mono ?_); rintro e wa ⟨rfl, hb1⟩; have RA_0 := (hb1.block (w.heap.size) (by first | (simp; done) | (simp; omega) | omega)).trans ((Below.heap_alloc _ _ _ (by first | (simp; done) | (simp; omega) | omega)).trans ((Below.heap_alloc _ _ _ (by first | (simp; done) | (simp; omega) | omega)).trans (rownew' _ _ _ _ (by simp)))); have za_0 : w.heap.size < wa.heap.size := Nat.lt_of_lt_of_le (by first | (simp; done) | (simp; omega) | omega) hb1.size; have ca_0_0 := rowcell RA_0 0; have ca_0_1 := rowcell RA_0 1; have ca_0_2 := rowcell RA_0 2; have ca_0_3 := rowcell RA_0 3; have ca_0_4 := rowcell RA_0 4; have ca_0_5 := rowcell RA_0 5; simp only [List.getElem?_toArray, List.getElem?_cons_zero, List.getElem?_cons_succ] at ca_0_0 ca_0_1 ca_0_2 ca_0_3 ca_0_4 ca_0_5; have HA1_0 : Hid _ := RA_0; clear RA_0; have RA_1 := (hb1.block (w.heap.size + 1) (by first | (simp; done) | (simp; omega) | omega)).trans ((Below.heap_alloc _ _ _ (by first | (simp; done) | (simp; omega) | omega)).trans (rownew' _ _ _ _ (by simp))); have za_1 : w.heap.size + 1 < wa.heap.size := Nat.lt_of_lt_of_le (by first | (simp; done) | (simp; omega) | omega) hb1.size; have ca_1_0 := rowcell RA_1 0; have ca_1_1 := rowcell RA_1 1; have ca_1_2 := rowcell RA_1 2; have ca_1_3 := rowcell RA_1 3; have ca_1_4 := rowcell RA_1 4; have ca_1_5 := rowcell RA_1 5; simp only [List.getElem?_toArray, List.getElem?_cons_zero, List.getElem?_cons_succ] at ca_1_0 ca_1_1 ca_1_2 ca_1_3 ca_1_4 ca_1_5; have HA1_1 : Hid _ := RA_1; clear RA_1; have RA_2 := (hb1.block (w.heap.size + 1 + 1) (by first | (simp; done) | (simp; omega) | omega)).trans (rownew' _ _ _ _ (by simp)); have za_2 : w.heap.size + 1 + 1 < wa.heap.size := Nat.lt_of_lt_of_le (by first | (simp; done) | (simp; omega) | omega) hb1.size; have HA1_2 : Hid _ := RA_2; clear RA_2; have HA1 : Hid (Below _ _ _) := hb1; clear hb1; have fr0 := rowfree HA1_0.out; have fr1 := rowfree HA1_1.out; have fr2 := rowfree HA1_2.out)
  generalize hw1 : World.setCell _ _ _ = w1
  have HR1_0 : Hid (w1.heap[w.heap.size]? = some (.cells #[.int .i64 1, .bool ng, .int .i64 sg, .int .u64 hg, .int .u64 lg, .bool false] 39 (0, 0))) := by show _ = _; rw [← hw1]; exact rowE6_other (rowE6 HA1_0.out) (by omega)
  have HR1_1 : Hid (w1.heap[w.heap.size + 1]? = some (.cells #[.int .i64 1, .bool nl, .int .i64 sl, .int .u64 hl, .int .u64 ll, .bool false] 39 (0, 0))) := by show _ = _; rw [← hw1]; exact rowE6 (rowE6_other HA1_1.out (by omega))
  have HR1_2 : Hid (w1.heap[w.heap.size + 1 + 1]? = some (.cells #[.int .i64 0, .bool false, .int .i64 0, .int .u64 0, .int .u64 0, .bool false] 39 (0, 0))) := by show _ = _; rw [← hw1]; exact rowE6_other (rowE6_other HA1_2.out (by omega)) (by omega)
  have HBW : Hid (Below w.heap.size w w1) := by show Below _ _ _; rw [← hw1]; exact cset6 (cset6 (cthen (cmore (cmore (cmore (Below.refl _ _) _) _) _) HA1.out) (Nat.le_refl _)) (by omega)
  clear ca_0_0 ca_0_1 ca_0_2 ca_0_3 ca_0_4 ca_0_5 ca_1_0 ca_1_1 ca_1_2 ca_1_3 ca_1_4 ca_1_5 fr0 fr1 fr2 hw1 za_0 za_1 za_2
  have z1_0 : w.heap.size < w1.heap.size := rowlt HR1_0.out
  have z1_1 : w.heap.size + 1 < w1.heap.size := rowlt HR1_1.out
  have z1_2 : w.heap.size + 1 + 1 < w1.heap.size := rowlt HR1_2.out
  have x0_ := rowcell HR1_0.out 0
  have x1_ := rowcell HR1_0.out 1
  have x2_ := rowcell HR1_0.out 2
  have x3_ := rowcell HR1_0.out 3
  have x4_ := rowcell HR1_0.out 4
  have x5_ := rowcell HR1_0.out 5
  simp only [List.getElem?_toArray, List.getElem?_cons_zero, List.getElem?_cons_succ] at x0_ x1_ x2_ x3_ x4_ x5_
  go_upto_region 4 with (first
    | (go_at_call 63; have chk := HB2; go_must (refine (k1 _).mono ?_); rintro e w3 ⟨rfl, hb3⟩; have R3_0 := (hb3.block (w.heap.size) (by first | (simp; done) | (simp; omega) | omega)).trans HR2_0.out; have z3_0 : w.heap.size < w3.heap.size := Nat.lt_of_lt_of_le (by first | (simp; done) | (simp; omega) | omega) hb3.size; have HR3_0 : Hid _ := R3_0; clear R3_0; have R3_1 := (hb3.block (w.heap.size + 1) (by first | (simp; done) | (simp; omega) | omega)).trans HR2_1.out; have z3_1 : w.heap.size + 1 < w3.heap.size := Nat.lt_of_lt_of_le (by first | (simp; done) | (simp; omega) | omega) hb3.size; have HR3_1 : Hid _ := R3_1; clear R3_1; have R3_2 := (hb3.block (w.heap.size + 1 + 1) (by first | (simp; done) | (simp; omega) | omega)).trans HR2_2.out; have z3_2 : w.heap.size + 1 + 1 < w3.heap.size := Nat.lt_of_lt_of_le (by first | (simp; done) | (simp; omega) | omega) hb3.size; have HR3_2 : Hid _ := R3_2; clear R3_2; have HB3 : Hid (Below _ _ _) := hb3; clear hb3)
    | (go_at_call 64; go_must (refine (dg _).mono ?_); rintro e w2 ⟨rfl, hb2⟩; have R2_0 := (hb2.block (w.heap.size) (by first | (simp; done) | (simp; omega) | omega)).trans HR1_0.out; have z2_0 : w.heap.size < w2.heap.size := Nat.lt_of_lt_of_le (by first | (simp; done) | (simp; omega) | omega) hb2.size; have HR2_0 : Hid _ := R2_0; clear R2_0; have R2_1 := (hb2.block (w.heap.size + 1) (by first | (simp; done) | (simp; omega) | omega)).trans HR1_1.out; have z2_1 : w.heap.size + 1 < w2.heap.size := Nat.lt_of_lt_of_le (by first | (simp; done) | (simp; omega) | omega) hb2.size; have HR2_1 : Hid _ := R2_1; clear R2_1; have R2_2 := (hb2.block (w.heap.size + 1 + 1) (by first | (simp; done) | (simp; omega) | omega)).trans HR1_2.out; have z2_2 : w.heap.size + 1 + 1 < w2.heap.size := Nat.lt_of_lt_of_le (by first | (simp; done) | (simp; omega) | omega) hb2.size; have HR2_2 : Hid _ := R2_2; clear R2_2; have HB2 : Hid (Below _ _ _) := hb2; clear hb2))
  clear x0_ x1_ x2_ x3_ x4_ x5_
  generalize hw4 : World.alloc w3 _ = w4
  have HR4_0 := (show Hid _ from (by rw [← hw4]; exact (Below.heap_alloc _ _ _ (by omega)).trans HR3_0.out : w4.heap[w.heap.size]? = some (.cells #[.int .i64 1, .bool ng, .int .i64 sg, .int .u64 hg, .int .u64 lg, .bool false] 39 (0, 0))))
  have HR4_1 := (show Hid _ from (by rw [← hw4]; exact (Below.heap_alloc _ _ _ (by omega)).trans HR3_1.out : w4.heap[w.heap.size + 1]? = some (.cells #[.int .i64 1, .bool nl, .int .i64 sl, .int .u64 hl, .int .u64 ll, .bool false] 39 (0, 0))))
  have HR4_2 := (show Hid _ from (by rw [← hw4]; exact (Below.heap_alloc _ _ _ (by omega)).trans HR3_2.out : w4.heap[w.heap.size + 1 + 1]? = some (.cells #[.int .i64 0, .bool false, .int .i64 0, .int .u64 0, .int .u64 0, .bool false] 39 (0, 0))))
  have HR4_3 := (show Hid _ from (by rw [← hw4]; exact rownew _ _ _ : w4.heap[w3.heap.size]? = some (.cells #[.int .u64 a0, .int .u64 a1, .int .u64 a2, .int .u64 a3, .int .u64 a4] 104 (0, 0))))
  have HBX : Hid (Below w.heap.size w w4) := by show Below _ _ _; rw [← hw4]; exact cmore (cthen (cthen (HBW.out) HB2.out) HB3.out) _
  clear hw4
  have y4_0 : w.heap.size < w4.heap.size := rowlt HR4_0.out
  have y4_1 : w.heap.size + 1 < w4.heap.size := rowlt HR4_1.out
  have y4_2 : w.heap.size + 1 + 1 < w4.heap.size := rowlt HR4_2.out
  have y4_3 : w3.heap.size < w4.heap.size := rowlt HR4_3.out
  have cls : ∀ V, Below w4.heap.size w4 V → V.cell? ⟨w.heap.size, 2, none⟩ = some (.int .i64 sg) ∧ V.cell? ⟨w.heap.size + 1, 0, none⟩ = some (.int .i64 1) ∧ V.cell? ⟨w.heap.size + 1, 1, none⟩ = some (.bool nl) ∧ V.cell? ⟨w.heap.size + 1, 2, none⟩ = some (.int .i64 sl) ∧ V.cell? ⟨w.heap.size + 1, 3, none⟩ = some (.int .u64 hl) ∧ V.cell? ⟨w.heap.size + 1, 4, none⟩ = some (.int .u64 ll) ∧ V.cell? ⟨w.heap.size + 1, 5, none⟩ = some (.bool false) := fun V hV => by
    have q0 := (hV.block (w.heap.size) y4_0).trans HR4_0.out
    have q1 := (hV.block (w.heap.size + 1) y4_1).trans HR4_1.out
    exact ⟨rowcell q0 2, rowcell q1 0, rowcell q1 1, rowcell q1 2, rowcell q1 3, rowcell q1 4, rowcell q1 5⟩
  have B4 : Below w4.heap.size w4 w4 := Below.refl _ _
  go_cut [7] from 19 (fun s7 wx => ∃ n : Nat, s7 = .pointer (some ⟨n, 0, none⟩) ∧ Hid (Below w4.heap.size w4 wx) ∧ w4.heap.size ≤ n ∧ Hid (wx.heap[n]? = some (.cells #[.int .u64 y0, .int .u64 y1, .int .u64 y2, .int .u64 y3, .int .u64 y4] 104 (0, 0))))
  case first =>
    refine wpC_region (fun V => V.cell? ⟨w.heap.size, 2, none⟩ = some (.int .i64 sg) ∧ V.cell? ⟨w.heap.size + 1, 0, none⟩ = some (.int .i64 1) ∧ V.cell? ⟨w.heap.size + 1, 1, none⟩ = some (.bool nl) ∧ V.cell? ⟨w.heap.size + 1, 2, none⟩ = some (.int .i64 sl) ∧ V.cell? ⟨w.heap.size + 1, 3, none⟩ = some (.int .u64 hl) ∧ V.cell? ⟨w.heap.size + 1, 4, none⟩ = some (.int .u64 ll) ∧ V.cell? ⟨w.heap.size + 1, 5, none⟩ = some (.bool false)) (by kernel_rfl) ?_
    refine wpC_take 0 (v := ?_) rfl (by kernel_rfl) (fun _ _ _ h => h) (by kernel_rfl) ?_ ?_; rotate_left; · (intro wC hC; obtain ⟨d0, d1, d2, d3, d4, d5, d6⟩ := hC; go_simp <;> with_reducible rfl)
    refine wpC_take 2 (v := ?_) rfl (by kernel_rfl) (fun _ _ _ h => h) (by kernel_rfl) ?_ ?_; rotate_left; · (intro wC hC; obtain ⟨d0, d1, d2, d3, d4, d5, d6⟩ := hC; go_simp <;> with_reducible rfl)
    refine wpC_take 3 (v := ?_) rfl (by kernel_rfl) (fun _ _ _ h => h) (by kernel_rfl) ?_ ?_; rotate_left; · (intro wC hC; obtain ⟨d0, d1, d2, d3, d4, d5, d6⟩ := hC; go_simp <;> with_reducible rfl)
    refine wpC_take 4 (v := ?_) rfl (by kernel_rfl) (fun _ _ _ h => h) (by kernel_rfl) ?_ ?_; rotate_left; · (intro wC hC; obtain ⟨d0, d1, d2, d3, d4, d5, d6⟩ := hC; go_simp <;> with_reducible rfl)
    refine wpC_take 5 (v := ?_) rfl (by kernel_rfl) (fun _ _ _ h => h) (by kernel_rfl) ?_ ?_; rotate_left; · (intro wC hC; obtain ⟨d0, d1, d2, d3, d4, d5, d6⟩ := hC; go_simp <;> with_reducible rfl)
    refine wpC_take 6 (v := ?_) rfl (by kernel_rfl) (fun _ _ _ h => h) (by kernel_rfl) ?_ ?_; rotate_left; · (intro wC hC; obtain ⟨d0, d1, d2, d3, d4, d5, d6⟩ := hC; go_simp <;> with_reducible rfl)
    refine wpC_take 7 (v := ?_) rfl (by kernel_rfl) (fun _ _ _ h => h) (by kernel_rfl) ?_ ?_; rotate_left; · (intro wC hC; obtain ⟨d0, d1, d2, d3, d4, d5, d6⟩ := hC; go_simp <;> with_reducible rfl)
    refine wpC_take 8 (v := ?_) rfl (by kernel_rfl) (fun _ _ _ h => h) (by kernel_rfl) ?_ ?_; rotate_left; · (intro wC hC; obtain ⟨d0, d1, d2, d3, d4, d5, d6⟩ := hC; go_simp <;> with_reducible rfl)
    refine wpC_two 1 10 rfl rfl (by kernel_rfl) (by kernel_rfl) (by kernel_rfl) (cls _ (bdrew B4)) (fun K hK => ?_) (fun K hK => ?_)
    · skip
      go_simp
      go_wp2_with ((go_at_call 64; refine (dl _).mono ?_; rintro e w5 ⟨rfl, hb5⟩; have B5 := bthen (bdrew B4) hb5))
      try (refine hK _ _ ?_; clear hK K)
      refine wpC_two 9 10 rfl rfl (by kernel_rfl) (by kernel_rfl) (by kernel_rfl) (cls _ B5) (fun K hK => ?_) (fun K hK => ?_)
      · skip
        go_simp
        go_wp2_with ((go_at_call 63; refine (k2 _).mono ?_; rintro e w6 ⟨rfl, hb6⟩; have B6 := bthen (B5) hb6))
        try (refine hK _ _ ?_; clear hK K)
        refine wpC_step 10 rfl (by kernel_rfl) (by kernel_rfl) (cls _ B6) (fun K hK => ?_)
        go_simp
        try (refine hK _ _ ?_; clear hK K)
        refine wpC_step 11 rfl (by kernel_rfl) (by kernel_rfl) (cls _ (bmore B6 _)) (fun K hK => ?_)
        go_simp
        try (refine hK _ _ ?_; clear hK K)
        refine wpC_done (by kernel_rfl) (cls _ (bmore B6 _)) ?_
        go_wp2_with fail
        go_meet
        case rel => exact ⟨_, rfl, bmore B6 _, B6.size, rownew _ _ _⟩
      · skip
        go_simp
        try (refine hK _ _ ?_; clear hK K)
        refine wpC_step 9 rfl (by kernel_rfl) (by kernel_rfl) (cls _ (bmore B5 _)) (fun K hK => ?_)
        go_simp
        go_wp2_with ((go_at_call 63; refine (k2 _).mono ?_; rintro e w6 ⟨rfl, hb6⟩; have B6 := bthen (bmore B5 _) hb6; have R6 := (hb6.block (w5.heap.size) (by simp)).trans (rownew _ _ _); have rf := rowfree R6; have rl := rowlt R6; have rc0 := rowcell R6 0; have rc1 := rowcell R6 1; have rc2 := rowcell R6 2; have rc3 := rowcell R6 3; have rc4 := rowcell R6 4; simp only [List.getElem?_toArray, List.getElem?_cons_zero, List.getElem?_cons_succ] at rc0 rc1 rc2 rc3 rc4))
        try (refine hK _ _ ?_; clear hK K)
        have y5 := B5.size
        refine wpC_step 11 rfl (by kernel_rfl) (by kernel_rfl) (cls _ B6) (fun K hK => ?_)
        go_simp
        try (refine hK _ _ ?_; clear hK K)
        refine wpC_done (by kernel_rfl) (cls _ (cset5 B6 y5)) ?_
        go_wp2_with fail
        go_meet
        case rel => exact ⟨_, rfl, cset5 B6 y5, y5, row5 R6⟩
    · skip
      go_simp
      try (refine hK _ _ ?_; clear hK K)
      refine wpC_step 1 rfl (by kernel_rfl) (by kernel_rfl) (cls _ (bmore (bdrew B4) _)) (fun K hK => ?_)
      go_simp
      go_wp2_with ((go_at_call 64; refine (dl _).mono ?_; rintro e w5 ⟨rfl, hb5⟩; have B5 := bthen (bmore (bdrew B4) _) hb5; have R5 := (hb5.block (w4.heap.size) (by simp)).trans (rownew _ _ _); have y5 := rowlt R5))
      try (refine hK _ _ ?_; clear hK K)
      refine wpC_step 9 rfl (by kernel_rfl) (by kernel_rfl) (cls _ B5) (fun K hK => ?_)
      go_simp
      go_wp2_with ((go_at_call 63; refine (k2 _).mono ?_; rintro e w6 ⟨rfl, hb6⟩; have B6 := bthen (B5) hb6; have R6 := (hb6.block (w4.heap.size) y5).trans (R5); have rf := rowfree R6; have rl := rowlt R6; have rc0 := rowcell R6 0; have rc1 := rowcell R6 1; have rc2 := rowcell R6 2; have rc3 := rowcell R6 3; have rc4 := rowcell R6 4; simp only [List.getElem?_toArray, List.getElem?_cons_zero, List.getElem?_cons_succ] at rc0 rc1 rc2 rc3 rc4))
      try (refine hK _ _ ?_; clear hK K)
      refine wpC_step 11 rfl (by kernel_rfl) (by kernel_rfl) (cls _ B6) (fun K hK => ?_)
      go_simp
      try (refine hK _ _ ?_; clear hK K)
      refine wpC_done (by kernel_rfl) (cls _ (cset5 B6 (Nat.le_refl _))) ?_
      go_wp2_with fail
      go_meet
      case rel => exact ⟨_, rfl, cset5 B6 (Nat.le_refl _), Nat.le_refl _, row5 R6⟩
  case rest =>
    obtain ⟨n, rfl, hbx, hn, hrx⟩ := hcut
    have HB4 : Hid (Below w4.heap.size w4 wc) := hbx.out
    have HR5_0 := (show Hid _ from (hbx.out.block (w.heap.size) y4_0).trans HR4_0.out)
    have HR5_1 := (show Hid _ from (hbx.out.block (w.heap.size + 1) y4_1).trans HR4_1.out)
    have HR5_2 := (show Hid _ from (hbx.out.block (w.heap.size + 1 + 1) y4_2).trans HR4_2.out)
    have HR5_3 := (show Hid _ from (hbx.out.block (w3.heap.size) y4_3).trans HR4_3.out)
    have HR5_4 := hrx
    have z5_0 : w.heap.size < wc.heap.size := rowlt HR5_0.out
    have z5_1 : w.heap.size + 1 < wc.heap.size := rowlt HR5_1.out
    have z5_2 : w.heap.size + 1 + 1 < wc.heap.size := rowlt HR5_2.out
    have z5_3 : w3.heap.size < wc.heap.size := rowlt HR5_3.out
    have z5_4 : n < wc.heap.size := rowlt HR5_4.out
    have y5_3 : w.heap.size + 1 + 1 < w3.heap.size := by omega
    have HBY : Hid (Below w.heap.size w wc) := cthen HBX.out HB4.out
    clear hbx hrx cls B4 HBX HB4
    have k3_0 := rowcell HR5_3.out 0
    have k3_1 := rowcell HR5_3.out 1
    have k3_2 := rowcell HR5_3.out 2
    have k3_3 := rowcell HR5_3.out 3
    have k3_4 := rowcell HR5_3.out 4
    have k4_0 := rowcell HR5_4.out 0
    have k4_1 := rowcell HR5_4.out 1
    have k4_2 := rowcell HR5_4.out 2
    have k4_3 := rowcell HR5_4.out 3
    have k4_4 := rowcell HR5_4.out 4
    have k0_1 := rowcell HR5_0.out 1
    have k1_1 := rowcell HR5_1.out 1
    simp only [List.getElem?_toArray, List.getElem?_cons_zero, List.getElem?_cons_succ] at k0_1 k1_1 k3_0 k3_1 k3_2 k3_3 k3_4 k4_0 k4_1 k4_2 k4_3 k4_4
    go_wp2_with (first
      | (go_at_call 65; go_must (refine (k3 _).mono ?_); rintro e w6 ⟨rfl, hb6⟩; have R6_0 := (hb6.block (w.heap.size) (by first | (simp; done) | (simp; omega) | omega)).trans HR5_0.out; have z6_0 : w.heap.size < w6.heap.size := Nat.lt_of_lt_of_le (by first | (simp; done) | (simp; omega) | omega) hb6.size; have c6_0_1 := rowcell R6_0 1; simp only [List.getElem?_toArray, List.getElem?_cons_zero, List.getElem?_cons_succ] at c6_0_1; have HR6_0 : Hid _ := R6_0; clear R6_0; have R6_1 := (hb6.block (w.heap.size + 1) (by first | (simp; done) | (simp; omega) | omega)).trans HR5_1.out; have z6_1 : w.heap.size + 1 < w6.heap.size := Nat.lt_of_lt_of_le (by first | (simp; done) | (simp; omega) | omega) hb6.size; have c6_1_1 := rowcell R6_1 1; simp only [List.getElem?_toArray, List.getElem?_cons_zero, List.getElem?_cons_succ] at c6_1_1; have HR6_1 : Hid _ := R6_1; clear R6_1; have R6_2 := (hb6.block (w.heap.size + 1 + 1) (by first | (simp; done) | (simp; omega) | omega)).trans HR5_2.out; have z6_2 : w.heap.size + 1 + 1 < w6.heap.size := Nat.lt_of_lt_of_le (by first | (simp; done) | (simp; omega) | omega) hb6.size; have HR6_2 : Hid _ := R6_2; clear R6_2; have R6_3 := (hb6.block (w3.heap.size) (by first | (simp; done) | (simp; omega) | omega)).trans HR5_3.out; have z6_3 : w3.heap.size < w6.heap.size := Nat.lt_of_lt_of_le (by first | (simp; done) | (simp; omega) | omega) hb6.size; have c6_3_0 := rowcell R6_3 0; have c6_3_1 := rowcell R6_3 1; have c6_3_2 := rowcell R6_3 2; have c6_3_3 := rowcell R6_3 3; have c6_3_4 := rowcell R6_3 4; simp only [List.getElem?_toArray, List.getElem?_cons_zero, List.getElem?_cons_succ] at c6_3_0 c6_3_1 c6_3_2 c6_3_3 c6_3_4; have HR6_3 : Hid _ := R6_3; clear R6_3; have R6_4 := (hb6.block (n) (by first | (simp; done) | (simp; omega) | omega)).trans HR5_4.out; have z6_4 : n < w6.heap.size := Nat.lt_of_lt_of_le (by first | (simp; done) | (simp; omega) | omega) hb6.size; have c6_4_0 := rowcell R6_4 0; have c6_4_1 := rowcell R6_4 1; have c6_4_2 := rowcell R6_4 2; have c6_4_3 := rowcell R6_4 3; have c6_4_4 := rowcell R6_4 4; simp only [List.getElem?_toArray, List.getElem?_cons_zero, List.getElem?_cons_succ] at c6_4_0 c6_4_1 c6_4_2 c6_4_3 c6_4_4; have HR6_4 : Hid _ := R6_4; clear R6_4; have HB6 : Hid (Below _ _ _) := hb6; clear hb6)
      | (go_at_call 66; go_must (refine (k4 _).mono ?_); rintro e w7 ⟨rfl, hb7⟩; have R7_0 := (hb7.block (w.heap.size) (by first | (simp; done) | (simp; omega) | omega)).trans ((Below.heap_alloc _ _ _ (by first | (simp; done) | (simp; omega) | omega)).trans HR6_0.out); have z7_0 : w.heap.size < w7.heap.size := Nat.lt_of_lt_of_le (by first | (simp; done) | (simp; omega) | omega) hb7.size; have HR7_0 : Hid _ := R7_0; clear R7_0; have R7_1 := (hb7.block (w.heap.size + 1) (by first | (simp; done) | (simp; omega) | omega)).trans ((Below.heap_alloc _ _ _ (by first | (simp; done) | (simp; omega) | omega)).trans HR6_1.out); have z7_1 : w.heap.size + 1 < w7.heap.size := Nat.lt_of_lt_of_le (by first | (simp; done) | (simp; omega) | omega) hb7.size; have HR7_1 : Hid _ := R7_1; clear R7_1; have R7_2 := (hb7.block (w.heap.size + 1 + 1) (by first | (simp; done) | (simp; omega) | omega)).trans ((Below.heap_alloc _ _ _ (by first | (simp; done) | (simp; omega) | omega)).trans HR6_2.out); have z7_2 : w.heap.size + 1 + 1 < w7.heap.size := Nat.lt_of_lt_of_le (by first | (simp; done) | (simp; omega) | omega) hb7.size; have c7_2_0 := rowcell R7_2 0; have c7_2_1 := rowcell R7_2 1; have c7_2_2 := rowcell R7_2 2; have c7_2_3 := rowcell R7_2 3; have c7_2_4 := rowcell R7_2 4; have c7_2_5 := rowcell R7_2 5; simp only [List.getElem?_toArray, List.getElem?_cons_zero, List.getElem?_cons_succ] at c7_2_0 c7_2_1 c7_2_2 c7_2_3 c7_2_4 c7_2_5; have HR7_2 : Hid _ := R7_2; clear R7_2; have R7_3 := (hb7.block (w3.heap.size) (by first | (simp; done) | (simp; omega) | omega)).trans ((Below.heap_alloc _ _ _ (by first | (simp; done) | (simp; omega) | omega)).trans HR6_3.out); have z7_3 : w3.heap.size < w7.heap.size := Nat.lt_of_lt_of_le (by first | (simp; done) | (simp; omega) | omega) hb7.size; have HR7_3 : Hid _ := R7_3; clear R7_3; have R7_4 := (hb7.block (n) (by first | (simp; done) | (simp; omega) | omega)).trans ((Below.heap_alloc _ _ _ (by first | (simp; done) | (simp; omega) | omega)).trans HR6_4.out); have z7_4 : n < w7.heap.size := Nat.lt_of_lt_of_le (by first | (simp; done) | (simp; omega) | omega) hb7.size; have HR7_4 : Hid _ := R7_4; clear R7_4; have R7_5 := (hb7.block (w6.heap.size) (by first | (simp; done) | (simp; omega) | omega)).trans (rownew' _ _ _ _ (by simp)); have z7_5 : w6.heap.size < w7.heap.size := Nat.lt_of_lt_of_le (by first | (simp; done) | (simp; omega) | omega) hb7.size; have c7_5_0 := rowcell R7_5 0; have c7_5_1 := rowcell R7_5 1; have c7_5_2 := rowcell R7_5 2; have c7_5_3 := rowcell R7_5 3; have c7_5_4 := rowcell R7_5 4; simp only [List.getElem?_toArray, List.getElem?_cons_zero, List.getElem?_cons_succ] at c7_5_0 c7_5_1 c7_5_2 c7_5_3 c7_5_4; have HR7_5 : Hid _ := R7_5; clear R7_5; have HB7 : Hid (Below _ _ _) := hb7; clear hb7; have f5 := rowfree HR7_5.out; have f2 := rowfree HR7_2.out))
    refine bodyPost_ret (v := .tuple #[.agg #[.int .i64 0, .bool false, .int .i64 0, .int .u64 0, .int .u64 0, .bool false], .nilIface]) (by simp [results, Tryz.results35, go_sem, c7_2_0, c7_2_1, c7_2_2, c7_2_3, c7_2_4, c7_2_5, f2, z7_2]; done) rfl (hQ.out _ _ ⟨rfl, ?_⟩)
    exact cset6 (cset5 (cthen (cmore (cthen (HBY.out) HB6.out) _) HB7.out) (by omega)) (by omega)
end Go.Proofs.YtheliihkkoohnaaGreat

namespace Go.Proofs.YtheliihkkoohnaaGreat
set_option maxRecDepth 100000
set_option linter.unusedVariables false
set_option linter.unusedSimpArgs false

/-! ### sums as whole numbers times a power of 2 (plain mathematics) -/
/-- a whole number times 2^e, its first 128 digits -/
def exI (T : Int) (e : Int) : Value := exactV (decide (T < 0)) T.natAbs e false
def sg (neg : Bool) (N : Nat) : Int := if neg then -(N : Int) else N
theorem exactV_zero (neg : Bool) (e : Int) (r : Bool) : exactV neg 0 e r = exV 0 false 0 0 0 false := by unfold exactV; rw [if_pos rfl]
theorem exI_sg (neg : Bool) (N : Nat) (e : Int) : exI (sg neg N) e = exactV neg N e false := by
  by_cases h : N = 0
  · subst h
    have : sg neg 0 = 0 := by unfold sg; cases neg <;> rfl
    rw [this, exactV_zero]
    show exactV _ 0 e false = _
    rw [exactV_zero]
  · unfold exI sg
    cases neg
    · rw [if_neg (by decide), Int.natAbs_natCast, decide_eq_false (by omega)]
    · rw [if_pos rfl, Int.natAbs_neg, Int.natAbs_natCast, decide_eq_true (by omega)]
theorem sg_mul (neg : Bool) (N c : Nat) : sg neg (N * c) = sg neg N * c := by unfold sg; cases neg <;> simp [Int.neg_mul]
theorem exI_two (T : Int) (j : Nat) (e : Int) : exI (T * ((2 ^ j : Nat) : Int)) (e - j) = exI T e := by
  have h : ∃ neg N, T = sg neg N := by
    by_cases h : T < 0
    · exact ⟨true, T.natAbs, by unfold sg; rw [if_pos rfl]; omega⟩
    · exact ⟨false, T.natAbs, by unfold sg; rw [if_neg (by decide)]; omega⟩
  obtain ⟨neg, N, rfl⟩ := h
  rw [← sg_mul, exI_sg, exI_sg, exactV_two]
def farD : Nat := 400
theorem farD_eq : farD = 400 := rfl
/-- what the document's Sum answers where the first scale is no less -/
def sumD (neg : Bool) (s : Int) (M : Nat) (neg' : Bool) (s' : Int) (M' : Nat) : Value :=
  let d := if 400 < s - s' then farD else (s - s').toNat
  let b := if 400 < s - s' then 1 else M'
  if neg = neg' then exactV neg (M * 2 ^ d + b) (s - 127 - d) false
  else if b ≤ M * 2 ^ d then exactV neg (M * 2 ^ d - b) (s - 127 - d) false
  else exactV neg' (b - M * 2 ^ d) (s - 127 - d) false
/-- without the bound on the distance -/
theorem sumD_near (neg : Bool) (s : Int) (M : Nat) (neg' : Bool) (s' : Int) (M' : Nat) (hM : Mant M) (hM' : Mant M') (h : s' ≤ s) (d : Nat) (hd : (d : Int) = s - s') :
    sumD neg s M neg' s' M' = if neg = neg' then exactV neg (M * 2 ^ d + M') (s - 127 - d) false else if M' ≤ M * 2 ^ d then exactV neg (M * 2 ^ d - M') (s - 127 - d) false else exactV neg' (M' - M * 2 ^ d) (s - 127 - d) false := by
  unfold sumD
  by_cases hf : 400 < s - s'
  · simp only [if_pos hf]
    have hd4 : 400 < d := by omega
    obtain ⟨m1, m2⟩ := hM'
    have m0 : 1 ≤ M' := Nat.le_trans Nat.one_le_two_pow m1
    have hlt : ∀ k, 128 ≤ k → M' < 2 ^ k := fun k hk => Nat.lt_of_lt_of_le m2 (Nat.pow_le_pow_right (by decide) hk)
    have h1k : ∀ k, 1 ≤ k → 1 < 2 ^ k := fun k hk => Nat.lt_of_lt_of_le (by decide : 1 < 2 ^ 1) (Nat.pow_le_pow_right (by decide) hk)
    have hbig : ∀ k B, 128 ≤ k → B < 2 ^ k → B ≤ M * 2 ^ k := fun k B hk hB => Nat.le_trans (Nat.le_of_lt hB) (Nat.le_mul_of_pos_left _ (by have := hM.1; have := Nat.pow_pos (n := 127) (show 0 < 2 by decide); omega))
    by_cases hn : neg = neg'
    · rw [if_pos hn, if_pos hn]
      have a := far_add neg s (M := M) (B := 1) (d := farD) hM (Nat.le_refl _) (h1k farD (by rw [farD_eq]; omega))
      have b := far_add neg s (M := M) (B := M') (d := d) hM m0 (hlt _ (by omega))
      rw [b]
      exact a
    · rw [if_neg hn, if_neg hn, if_pos (hbig farD 1 (by rw [farD_eq]; omega) (h1k farD (by rw [farD_eq]; omega))), if_pos (hbig d M' (by omega) (hlt _ (by omega)))]
      have a := far_sub neg s (M := M) (B := 1) (d := farD - 1) hM (Nat.le_refl _) (h1k (farD - 1) (by rw [farD_eq]; omega))
      rw [show farD - 1 + 1 = farD by rw [farD_eq]] at a
      have b := far_sub neg s (M := M) (B := M') (d := d - 1) hM m0 (hlt _ (by omega))
      rw [show d - 1 + 1 = d by omega] at b
      rw [b]
      exact a
  · simp only [if_neg hf]
    rw [show (s - s').toNat = d by omega]
theorem sg_add (neg : Bool) (A B : Nat) : sg neg A + sg neg B = sg neg (A + B) := by unfold sg; cases neg <;> simp <;> omega
theorem sg_sub (neg neg' : Bool) (A B : Nat) (h : neg ≠ neg') : sg neg A + sg neg' B = if B ≤ A then sg neg (A - B) else sg neg' (B - A) := by
  unfold sg
  cases neg <;> cases neg' <;> simp at h ⊢ <;> split <;> omega
/-- it is the sum of two whole numbers times a power of 2 -/
theorem sumD_int (neg : Bool) (s : Int) (M : Nat) (neg' : Bool) (s' : Int) (M' : Nat) (hM : Mant M) (hM' : Mant M') (h : s' ≤ s) (e : Int) (j j' : Nat) (hj : e + j = s) (hj' : e + j' = s') :
    sumD neg s M neg' s' M' = exI (sg neg M * ((2 ^ j : Nat) : Int) + sg neg' M' * ((2 ^ j' : Nat) : Int)) (e - 127) := by
  obtain ⟨d, hd⟩ : ∃ d : Nat, (d : Int) = s - s' := ⟨(s - s').toNat, by omega⟩
  rw [sumD_near neg s M neg' s' M' hM hM' h d hd]
  have hjd : j = d + j' := by omega
  have e1 : sg neg M * ((2 ^ j : Nat) : Int) + sg neg' M' * ((2 ^ j' : Nat) : Int) = (sg neg (M * 2 ^ d) + sg neg' M') * ((2 ^ j' : Nat) : Int) := by
    rw [hjd, Nat.pow_add, sg_mul, Int.add_mul, Int.natCast_mul, Int.mul_assoc]
  have e2 : e - 127 = s - 127 - d - j' := by omega
  rw [e1, e2, exI_two]
  by_cases hn : neg = neg'
  · subst hn
    rw [if_pos rfl, sg_add, exI_sg]
  · rw [if_neg hn, sg_sub _ _ _ _ hn]
    split
    · rw [exI_sg]
    · rw [exI_sg]
/-- the document's Sum of two numbers -/
def sumR (neg : Bool) (s : Int) (M : Nat) (neg' : Bool) (s' : Int) (M' : Nat) : Value := if s < s' then sumD neg' s' M' neg s M else sumD neg s M neg' s' M'
theorem sumR_int (neg : Bool) (s : Int) (M : Nat) (neg' : Bool) (s' : Int) (M' : Nat) (hM : Mant M) (hM' : Mant M') (e : Int) (j j' : Nat) (hj : e + j = s) (hj' : e + j' = s') :
    sumR neg s M neg' s' M' = exI (sg neg M * ((2 ^ j : Nat) : Int) + sg neg' M' * ((2 ^ j' : Nat) : Int)) (e - 127) := by
  unfold sumR
  by_cases h : s < s'
  · rw [if_pos h, sumD_int neg' s' M' neg s M hM' hM (by omega) e j' j hj' hj, Int.add_comm]
  · rw [if_neg h, sumD_int neg s M neg' s' M' hM hM' (by omega) e j j' hj hj']
/-- a number itself -/
theorem exI_real (neg : Bool) (s : Int) (hi lo : Nat) (h : WordsX hi lo) (hs : -1099511627776 ≤ s ∧ s ≤ 1099511627776) (e : Int) (j : Nat) (hj : e + j = s) :
    exI (sg neg (manX hi lo) * ((2 ^ j : Nat) : Int)) (e - 127) = exV 1 neg s hi lo false := by
  rw [show e - 127 = s - 127 - j by omega, exI_two, exI_sg]
  have hm := h.mant
  obtain ⟨b, nn, ll⟩ := @norm_at (manX hi lo) 0 hm.1 hm.2
  have h0 : manX hi lo ≠ 0 := by have := hm.1; have := Nat.pow_pos (n := 127) (show 0 < 2 by decide); omega
  unfold exactV
  rw [if_neg h0, b, nn, ll, Nat.pow_zero, Nat.div_one, Nat.mod_one]
  obtain ⟨a1, a2, a3⟩ := h
  have hx : heldX (s - 127 + ((128 + 0 : Nat) : Int) - 1) = s := by unfold heldX; rw [if_neg (by omega), if_neg (by omega)]; omega
  have w1 : manX hi lo / 2 ^ 64 % 2 ^ 64 = hi := by unfold manX; omega
  have w2 : manX hi lo % 2 ^ 64 = lo := by unfold manX; omega
  rw [hx, w1, w2]
  rfl
end Go.Proofs.YtheliihkkoohnaaGreat

namespace Go.Proofs.YtheliihkkoohnaaGreat
set_option maxRecDepth 100000
set_option linter.unusedVariables false
set_option linter.unusedSimpArgs false

/-! ### rounding whole numbers times a power of 2: it rises (plain mathematics) -/
/-- a whole number above 0 times 2^e, rounded -/
def mgI (n N : Nat) (e : Int) (r : Bool) : Nat := rndX n (heldX (e + blen N - 1)) (normN N / 2 ^ 64 % 2 ^ 64) (normN N % 2 ^ 64) (r || lostN N)
theorem man_norm {N : Nat} (h : N ≠ 0) : manX (normN N / 2 ^ 64 % 2 ^ 64) (normN N % 2 ^ 64) = normN N := by
  have h2 := (normN_mant h).2
  unfold manX
  generalize normN N = M at *
  omega
theorem blen_mono {N N' : Nat} (h : N ≤ N') : blen N ≤ blen N' := blen_le.2 (Nat.lt_of_le_of_lt h (blen_hi N'))
def patI (n : Nat) (T e : Int) : Nat := if T = 0 then 0 else patR n (decide (T < 0)) (mgI n T.natAbs e false)
end Go.Proofs.YtheliihkkoohnaaGreat

namespace Go.Proofs.YtheliihkkoohnaaGreat
open Go.ChangeShapes Go.WideShapes Go.ChangeAt Go.RowKit
set_option linter.unusedVariables false
set_option linter.unusedSimpArgs false
set_option maxRecDepth 100000

/-! ### ranks, neighbours, signs: what is answered -/
def negO (n p : Nat) : Nat := minusU p % 2 ^ n
/-! ### steps -/
end Go.Proofs.YtheliihkkoohnaaGreat

namespace Go.Proofs.YtheliihkkoohnaaGreat
open Go.ChangeShapes Go.WideShapes Go.ChangeAt Go.RowKit
set_option linter.unusedVariables false
set_option linter.unusedSimpArgs false
set_option maxRecDepth 100000

end Go.Proofs.YtheliihkkoohnaaGreat

namespace Go.Proofs.YtheliihkkoohnaaGreat
open Go.ChangeShapes Go.WideShapes Go.ChangeAt Go.RowKit
set_option linter.unusedVariables false
set_option linter.unusedSimpArgs false
set_option maxRecDepth 100000

/-! ### ranks (plain mathematics) -/
end Go.Proofs.YtheliihkkoohnaaGreat

namespace Go.Proofs.YtheliihkkoohnaaGreat
open Go.ChangeShapes Go.WideShapes Go.ChangeAt Go.RowKit
set_option linter.unusedVariables false
set_option linter.unusedSimpArgs false
set_option maxRecDepth 100000

/-! ### ties (plain mathematics) -/
end Go.Proofs.YtheliihkkoohnaaGreat

namespace Go.Proofs.YtheliihkkoohnaaGreat
open Go.ChangeShapes Go.WideShapes Go.ChangeAt Go.RowKit
set_option linter.unusedVariables false
set_option linter.unusedSimpArgs false
set_option maxRecDepth 100000

/-! ### the order of ranks is the order of values -/
def vK (n x : Nat) : Int := kindOf n (x % 2 ^ n)
def vB (n x : Nat) : Bool := if kindOf n (x % 2 ^ n) = 1 then x.testBit (n - 1) else false
def vS (n x : Nat) : Int := if kindOf n (x % 2 ^ n) = 1 then scaleL (strS n x) else 0
def vF (n x : Nat) : Nat := if kindOf n (x % 2 ^ n) = 1 then wordL (strS n x) else 0
theorem decode6_v (n x : Nat) (hn : Wd n) (hx : x < 2 ^ 64) (w : World) :
    Calls Tryz.prog 39 #[.int .i64 n, .int .u64 x] w fun e w' => e = .returned (numV (vK n x) (vB n x) (vS n x) (vF n x)) ∧ Below w.heap.size w w' := by
  unfold vK vB vS vF
  by_cases hk : kindOf n (x % 2 ^ n) = 1
  · rw [if_pos hk, if_pos hk, if_pos hk]
    have := decode6_real n x hn hx hk w
    rwa [← hk] at this
  · rw [if_neg hk, if_neg hk, if_neg hk]
    exact decode6_other n x hn hk w
theorem sound_v (n x : Nat) (hn : Wd n) (hx : x < 2 ^ 64) : soundN (vK n x) (vB n x) (vS n x) (vF n x) = true := by
  unfold vK vB vS vF
  by_cases hk : kindOf n (x % 2 ^ n) = 1
  · rw [if_pos hk, if_pos hk, if_pos hk, hk]
    exact sound_home n _ _ hn (strS_length n x) (patOf_str n x hn hx hk).1
  · rw [if_neg hk, if_neg hk, if_neg hk]
    rcases kind_cases n _ hk with ⟨h, _⟩ | ⟨h, _⟩ <;> rw [h] <;> rfl
end Go.Proofs.YtheliihkkoohnaaGreat

namespace Go.Proofs.YtheliihkkoohnaaGreat
set_option maxRecDepth 100000
set_option linter.unusedVariables false
set_option linter.unusedSimpArgs false

/-! ### what patterns mean, as whole numbers times 2^(-375) (plain mathematics) -/
def eN : Int := -375
def valI (n x : Nat) : Int := if vK n x = 1 then sg (vB n x) (manX (vF n x) 0) * ((2 ^ (vS n x + 248).toNat : Nat) : Int) else 0
theorem v_real (n x : Nat) (hn : Wd n) (hx : x < 2 ^ 64) (hk : vK n x = 1) : vB n x = x.testBit (n - 1) ∧ vS n x = scaleL (strS n x) ∧ vF n x = wordL (strS n x) ∧ true ∈ strS n x ∧ (strS n x).length = n - 1 ∧ kindOf n (x % 2 ^ n) = 1 ∧ WordsX (vF n x) 0 ∧ 8 - 4 * (n : Int) ≤ vS n x ∧ vS n x ≤ 4 * n - 8 := by
  have hk' : kindOf n (x % 2 ^ n) = 1 := hk
  obtain ⟨ht, hp⟩ := patOf_str n x hn hx hk'
  have e1 : vB n x = x.testBit (n - 1) := by unfold vB; rw [if_pos hk']
  have e2 : vS n x = scaleL (strS n x) := by unfold vS; rw [if_pos hk']
  have e3 : vF n x = wordL (strS n x) := by unfold vF; rw [if_pos hk']
  refine ⟨e1, e2, e3, ht, strS_length n x, hk', by rw [e3]; exact words_of _, ?_⟩
  rw [e2]
  have := of_decide_eq_true (inR_of n _ hn (strS_length n x) ht)
  exact ⟨by omega, by omega⟩
theorem v_kinds (n x : Nat) (hn : Wd n) : vK n x = 0 ∧ x % 2 ^ n = 0 ∨ vK n x = 1 ∨ vK n x = 2 ∧ x % 2 ^ n = 2 ^ (n - 1) := by
  by_cases hk : kindOf n (x % 2 ^ n) = 1
  · exact .inr (.inl hk)
  · rcases kind_cases n _ hk with ⟨h, h2⟩ | ⟨h, h2⟩
    · exact .inl ⟨h, h2⟩
    · exact .inr (.inr ⟨h, h2⟩)
theorem val_zero (n x : Nat) (hk : vK n x ≠ 1) : valI n x = 0 := by unfold valI; rw [if_neg hk]
theorem val_inj {k k' : Int} {neg neg' : Bool} {s s' : Int} {hi lo hi' lo' : Nat} {r r' : Bool} (h : exV k neg s hi lo r = exV k' neg' s' hi' lo' r') : neg = neg' ∧ s = s' ∧ hi = hi' ∧ lo = lo' ∧ r = r' := by
  unfold exV at h
  simp only [Value.agg.injEq, Array.mk.injEq, List.cons.injEq, Value.int.injEq, Value.bool.injEq, true_and, and_true] at h
  obtain ⟨_, h1, h2, h3, h4, h5⟩ := h
  exact ⟨h1, h2, by omega, by omega, h5⟩
/-- the magnitude that is rounded, from the number ahead of its rounding -/
theorem patI_of {n : Nat} {T e : Int} {neg : Bool} {s : Int} {hi lo : Nat} {r : Bool} (h0 : T ≠ 0) (h : exI T e = exV 1 neg s hi lo r) : patI n T e = patR n neg (rndX n s hi lo r) := by
  unfold exI exactV at h
  rw [if_neg (by omega)] at h
  obtain ⟨h1, h2, h3, h4, h5⟩ := val_inj h
  unfold patI mgI
  rw [if_neg h0, h1, h2, h3, h4, h5]
/-- the negative pattern means the negative number -/
theorem val_neg (n x y : Nat) (hn : Wd n) (hx : x < 2 ^ 64) (hy : y < 2 ^ 64) (h : y % 2 ^ n = (2 ^ n - x % 2 ^ n) % 2 ^ n) : vK n y = vK n x ∧ valI n y = -valI n x ∧ (vK n x = 1 → vB n y = !vB n x) ∧ vS n y = vS n x ∧ vF n y = vF n x := by
  obtain ⟨H, p1, p2, p3, _⟩ := wd_pows hn
  have hm := Nat.mod_lt x (show 0 < 2 ^ n by omega)
  have hw := wd_le hn
  have hkk : vK n y = vK n x := by
    unfold vK kindOf
    rw [h, p2]
    by_cases c0 : x % 2 ^ n = 0
    · rw [c0, Nat.sub_zero, Nat.mod_self, if_pos rfl]
    · rw [Nat.mod_eq_of_lt (by omega), if_neg c0, if_neg (by omega)]
      by_cases c1 : x % 2 ^ n = H
      · rw [if_pos c1, if_pos (by omega)]
      · rw [if_neg c1, if_neg (by omega)]
  by_cases hk : vK n x = 1
  · have hk2 : vK n y = 1 := by rw [hkk, hk]
    obtain ⟨a1, a2, a3, at_, al, ak, _⟩ := v_real n x hn hx hk
    obtain ⟨b1, b2, b3, bt, bl, bk, _⟩ := v_real n y hn hy hk2
    have hne : x % 2 ^ n ≠ 0 ∧ x % 2 ^ n ≠ H := by
      unfold kindOf at ak
      constructor
      · intro c; rw [if_pos c] at ak; exact absurd ak (by decide)
      · intro c; rw [if_neg (by omega), p2, if_pos c] at ak; exact absurd ak (by decide)
    have hy2 : y % 2 ^ n = 2 ^ n - x % 2 ^ n := by rw [h, Nat.mod_eq_of_lt (by omega)]
    have tx := top_of n (x % 2 ^ n) hn hm
    have ty := top_of n (y % 2 ^ n) hn (Nat.mod_lt _ (by omega))
    rw [← testBit_low x n (by omega), p2] at tx
    rw [← testBit_low y n (by omega), p2, hy2] at ty
    have hs : strS n y = strS n x := by
      refine numOf_inj (by rw [al, bl]) ?_
      rw [strS_num n y hn hy, strS_num n x hn hx, tx, ty, hy2]
      by_cases c : H ≤ x % 2 ^ n
      · rw [decide_eq_true c, decide_eq_false (show ¬ H ≤ 2 ^ n - x % 2 ^ n by omega)]; rfl
      · rw [decide_eq_false c, decide_eq_true (show H ≤ 2 ^ n - x % 2 ^ n by omega)]
        simp only [Bool.false_eq_true, if_false, if_true]
        congr 1
        omega
    have hB : vB n y = !vB n x := by
      rw [a1, b1, tx, ty]
      by_cases c : H ≤ x % 2 ^ n
      · rw [decide_eq_true c, decide_eq_false (by omega)]; rfl
      · rw [decide_eq_false c, decide_eq_true (by omega)]; rfl
    have hS : vS n y = vS n x := by rw [a2, b2, hs]
    have hF : vF n y = vF n x := by rw [a3, b3, hs]
    refine ⟨hkk, ?_, fun _ => hB, hS, hF⟩
    unfold valI
    rw [if_pos hk, if_pos hk2, hB, hS, hF, ← Int.neg_mul]
    congr 1
    unfold sg
    cases vB n x <;> simp
  · have hk2 : vK n y ≠ 1 := by rw [hkk]; exact hk
    have ak : ¬ kindOf n (x % 2 ^ n) = 1 := hk
    have bk : ¬ kindOf n (y % 2 ^ n) = 1 := hk2
    refine ⟨hkk, by rw [val_zero n x hk, val_zero n y hk2]; rfl, fun c => absurd c hk, ?_, ?_⟩
    · unfold vS; rw [if_neg ak, if_neg bk]
    · unfold vF; rw [if_neg ak, if_neg bk]
end Go.Proofs.YtheliihkkoohnaaGreat
