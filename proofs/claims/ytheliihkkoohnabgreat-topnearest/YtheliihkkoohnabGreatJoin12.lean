import Derived.Test.YtheliihkkoohnabGreatJoin5
import Derived.Test.YtheliihkkoohnabGreatJoin3
import Derived.Test.YtheliihkkoohnabGreatJoin8
import Derived.Test.YtheliihkkoohnabGreatJoin1
import Derived.Test.YtheliihkkoohnabGreatJoin4
import Derived.Test.YtheliihkkoohnabGreatJoin10
import Derived.Test.YtheliihkkoohnabGreatJoin11
namespace Go.Proofs.YtheliihkkoohnabGreat
open Go.ChangeShapes Go.WideShapes Go.ChangeAt Go.RowKit
set_option linter.unusedVariables false
set_option linter.unusedSimpArgs false
set_option maxRecDepth 100000

/-! ### two arrays of four words, compared -/
theorem run_equalIn_arr4 {P : Program} (w : World) (d : Nat) (t e : TypeId) (a0 a1 a2 a3 b0 b1 b2 b3 : Int) (ht : P.underlying t = some (.array 4 e)) (he : P.underlying e = some (.int .u64)) (hz : ∀ w, (sizeOf e).run P w = .ok 1 w) :
    (Op.equalIn (d + 2) t (.agg #[.int .u64 a0, .int .u64 a1, .int .u64 a2, .int .u64 a3]) (.agg #[.int .u64 b0, .int .u64 b1, .int .u64 b2, .int .u64 b3])).run P w = .ok (decide (a0 = b0) && decide (a1 = b1) && decide (a2 = b2) && decide (a3 = b3)) w := by
  have hk := fun w a b => run_equalIn_int (P := P) w d e .u64 .u64 a b he
  have hg : ∀ w, (isAgg e).run P w = .ok false w := fun w => by simp [isAgg, run_underlying he]
  rw [Op.equalIn]
  simp [Sem.run_bind, run_underlying ht, List.range', go_sem, hk, hz, hg]
  by_cases h0 : a0 = b0 <;> by_cases h1 : a1 = b1 <;> by_cases h2 : a2 = b2 <;> by_cases h3 : a3 = b3 <;> simp [h0, h1, h2, h3]
theorem eql_words (p0 p1 p2 p3 : Int) (w : World) :
    (Op.equalIn 10000 112 (.agg #[.int .u64 p0, .int .u64 p1, .int .u64 p2, .int .u64 p3]) (.agg #[.int .u64 0, .int .u64 0, .int .u64 0, .int .u64 0])).run Tryz.prog w = .ok (decide (p0 = 0) && decide (p1 = 0) && decide (p2 = 0) && decide (p3 = 0)) w :=
  run_equalIn_arr4 w 9998 _ 22 p0 p1 p2 p3 0 0 0 0 Tryz.underlying112 Tryz.underlying22 (fun w => by simp [go_sem, sizeOf]; rfl)
/-! ### package sum: placed, plus, minus of numbers; two reals -/
theorem splaced_any {f k a b c d : Nat} (hf : f ≤ 18446744073709551615) (hk : k ≤ 191) (h : Qw (f * 2 ^ k) a b c d) (w : World) :
    Calls Tryz.prog 71 #[.int .u64 f, .int .i64 k] w fun e w' => e = .returned (wdV a b c d) ∧ Below w.heap.size w w' := by
  obtain ⟨q, r, hr, hq, e⟩ : ∃ q r, r ≤ 63 ∧ q ≤ 2 ∧ k = 64 * q + r := ⟨k / 64, k % 64, by omega, by omega, by omega⟩
  have hlt : f * 2 ^ r < 340282366920938463463374607431768211456 := by
    have a1 : 2 ^ r ≤ 2 ^ 63 := Nat.pow_le_pow_right (by decide) hr
    have a2 : f * 2 ^ r ≤ 18446744073709551615 * 2 ^ 63 := Nat.mul_le_mul hf a1
    omega
  have hv : f * 2 ^ k = f * 2 ^ r * 2 ^ (64 * q) := by rw [e, Nat.mul_assoc, ← Nat.pow_add, Nat.add_comm]
  obtain ⟨h1, l1, t⟩ : ∃ h l, Tw (f * 2 ^ r) h l := ⟨f * 2 ^ r / 18446744073709551616, f * 2 ^ r % 18446744073709551616, by omega, by omega, by omega⟩
  have ht := t
  obtain ⟨te, th, tl⟩ := t
  rw [hv, te] at h
  have hc : q = 0 ∨ q = 1 ∨ q = 2 := by omega
  rcases hc with rfl | rfl | rfl
  · obtain ⟨rfl, rfl, rfl, rfl⟩ := h.one (show Qw _ l1 h1 0 0 from ⟨by omega, by omega, by omega, by omega, by omega⟩)
    exact splaced_at f k 0 r _ _ _ _ _ _ hr e ht hf (.inl ⟨rfl, rfl, rfl, rfl, rfl⟩) w
  · obtain ⟨rfl, rfl, rfl, rfl⟩ := h.one (show Qw _ 0 l1 h1 0 from ⟨by rw [show 64 * 1 = 64 from rfl, show (2 : Nat) ^ 64 = 18446744073709551616 by decide]; omega, by omega, by omega, by omega, by omega⟩)
    exact splaced_at f k 1 r _ _ _ _ _ _ hr e ht hf (.inr (.inl ⟨rfl, rfl, rfl, rfl, rfl⟩)) w
  · obtain ⟨rfl, rfl, rfl, rfl⟩ := h.one (show Qw _ 0 0 l1 h1 from ⟨by rw [show 64 * 2 = 128 from rfl, show (2 : Nat) ^ 128 = 340282366920938463463374607431768211456 by decide]; omega, by omega, by omega, by omega, by omega⟩)
    exact splaced_at f k 2 r _ _ _ _ _ _ hr e ht hf (.inr (.inr ⟨rfl, rfl, rfl, rfl, rfl⟩)) w
theorem splus_any {A B x0 x1 x2 x3 y0 y1 y2 y3 s0 s1 s2 s3 : Nat} (ha : Qw A x0 x1 x2 x3) (hb : Qw B y0 y1 y2 y3) (hs : Qw (A + B) s0 s1 s2 s3) (w : World) :
    Calls Tryz.prog 72 #[wdV x0 x1 x2 x3, wdV y0 y1 y2 y3] w fun e w' => e = .returned (wdV s0 s1 s2 s3) ∧ Below w.heap.size w w' := by
  obtain ⟨ea, a0, a1, a2, a3⟩ := ha
  obtain ⟨eb, b0, b1, b2, b3⟩ := hb
  obtain ⟨c1, e1⟩ : ∃ c, c = (x0 + y0 + 0) / 18446744073709551616 := ⟨_, rfl⟩
  obtain ⟨c2, e2⟩ : ∃ c, c = (x1 + y1 + c1) / 18446744073709551616 := ⟨_, rfl⟩
  obtain ⟨c3, e3⟩ : ∃ c, c = (x2 + y2 + c2) / 18446744073709551616 := ⟨_, rfl⟩
  obtain ⟨c4, e4⟩ : ∃ c, c = (x3 + y3 + c3) / 18446744073709551616 := ⟨_, rfl⟩
  have q1 : Qw (A + B) ((x0 + y0 + 0) % 18446744073709551616) ((x1 + y1 + c1) % 18446744073709551616) ((x2 + y2 + c2) % 18446744073709551616) ((x3 + y3 + c3) % 18446744073709551616) := by
    have := hs.lt
    refine ⟨by omega, by omega, by omega, by omega, by omega⟩
  obtain ⟨rfl, rfl, rfl, rfl⟩ := hs.one q1
  have r0 := run_add64_at x0 y0 0 (by omega)
  have r1 := run_add64_at x1 y1 c1 (by omega)
  have r2 := run_add64_at x2 y2 c2 (by omega)
  have r3 := run_add64_at x3 y3 c3 (by omega)
  rw [← e1] at r0
  rw [← e2] at r1
  rw [← e3] at r2
  rw [← e4] at r3
  exact splus_walk x0 x1 x2 x3 y0 y1 y2 y3 _ _ _ _ c1 c2 c3 c4 r0 r1 r2 r3 w
theorem sminus_any {A B x0 x1 x2 x3 y0 y1 y2 y3 s0 s1 s2 s3 : Nat} (ha : Qw A x0 x1 x2 x3) (hb : Qw B y0 y1 y2 y3) (hle : B ≤ A) (hs : Qw (A - B) s0 s1 s2 s3) (w : World) :
    Calls Tryz.prog 73 #[wdV x0 x1 x2 x3, wdV y0 y1 y2 y3] w fun e w' => e = .returned (wdV s0 s1 s2 s3) ∧ Below w.heap.size w w' := by
  obtain ⟨ea, a0, a1, a2, a3⟩ := ha
  obtain ⟨eb, b0, b1, b2, b3⟩ := hb
  have one : ∀ x y c : Nat, x ≤ 18446744073709551615 → y ≤ 18446744073709551615 → c ≤ 1 → ∃ s d : Nat, s = (x + 18446744073709551616 - y - c) % 18446744073709551616 ∧ d = (if x < y + c then 1 else 0) ∧ d ≤ 1 ∧ s ≤ 18446744073709551615 ∧ x + d * 18446744073709551616 = s + y + c := by
    intro x y c hx hy hc
    refine ⟨_, _, rfl, rfl, ?_, by omega, ?_⟩
    · split <;> omega
    · split <;> omega
  obtain ⟨t0, d1, e0, f0, l1, m0, u0⟩ := one x0 y0 0 a0 b0 (by omega)
  obtain ⟨t1, d2, e1, f1, l2, m1, u1⟩ := one x1 y1 d1 a1 b1 l1
  obtain ⟨t2, d3, e2, f2, l3, m2, u2⟩ := one x2 y2 d2 a2 b2 l2
  obtain ⟨t3, d4, e3, f3, l4, m3, u3⟩ := one x3 y3 d3 a3 b3 l3
  have r0 := run_sub64_at x0 y0 0 (by omega)
  have r1 := run_sub64_at x1 y1 d1 l1
  have r2 := run_sub64_at x2 y2 d2 l2
  have r3 := run_sub64_at x3 y3 d3 l3
  rw [← e0, ← f0] at r0
  rw [← e1, ← f1] at r1
  rw [← e2, ← f2] at r2
  rw [← e3, ← f3] at r3
  clear e0 f0 e1 f1 e2 f2 e3 f3 one
  have q1 : Qw (A - B) t0 t1 t2 t3 := by
    clear r0 r1 r2 r3 hs a0 a1 a2 a3 b0 b1 b2 b3
    obtain ⟨T, hT⟩ : ∃ T, T = t0 + t1 * 18446744073709551616 + t2 * 340282366920938463463374607431768211456 + t3 * 6277101735386680763835789423207666416102355444464034512896 := ⟨_, rfl⟩
    have key : A + d4 * 115792089237316195423570985008687907853269984665640564039457584007913129639936 = T + B := by
      clear l1 l2 l3 l4 m0 m1 m2 m3 hle
      omega
    have hTl : T < 115792089237316195423570985008687907853269984665640564039457584007913129639936 := by
      clear key u0 u1 u2 u3 ea eb
      omega
    refine ⟨?_, m0, m1, m2, m3⟩
    rw [← hT]
    clear hT u0 u1 u2 u3 ea eb m0 m1 m2 m3
    omega
  obtain ⟨rfl, rfl, rfl, rfl⟩ := hs.one q1
  exact sminus_walk x0 x1 x2 x3 y0 y1 y2 y3 _ _ _ _ d1 d2 d3 d4 r0 r1 r2 r3 w
set_option maxHeartbeats 4000000 in
theorem sreals_stay_same (ng : Bool) (sg : Int) (fg : Nat) (nl : Bool) (sl : Int) (fl : Nat) (z : Int) (D E : Int) (kk : Nat) (a0 a1 a2 a3 y0 y1 y2 y3 p0 p1 p2 p3 : Int) (r0 r1 r2 r3 u sc o : Int) (k : Nat) (t : Bool)
    (k0 : ∀ w, Calls Tryz.prog 70 #[numV 1 ng sg fg, numV 1 nl sl fl] w fun e w' => e = .returned (.int .i64 z) ∧ Below w.heap.size w w')
    (hz : decide (z < 0) = false)
    (k1 : ∀ w, Calls Tryz.prog 71 #[.int .u64 fg, .int .i64 191] w fun e w' => e = .returned (.agg #[.int .u64 a0, .int .u64 a1, .int .u64 a2, .int .u64 a3]) ∧ Below w.heap.size w w')
    (q1 : IntKind.i64.wrap (sg - sl) = D) (q2 : IntKind.i64.wrap (191 - D) = E) (q3 : (if E < 0 then 0 else E) = (kk : Int))
    (k2 : ∀ w, Calls Tryz.prog 71 #[.int .u64 fl, .int .i64 kk] w fun e w' => e = .returned (.agg #[.int .u64 y0, .int .u64 y1, .int .u64 y2, .int .u64 y3]) ∧ Below w.heap.size w w')
    (k3 : ∀ w, Calls Tryz.prog 72 #[.agg #[.int .u64 a0, .int .u64 a1, .int .u64 a2, .int .u64 a3], .agg #[.int .u64 y0, .int .u64 y1, .int .u64 y2, .int .u64 y3]] w fun e w' => e = .returned (.agg #[.int .u64 p0, .int .u64 p1, .int .u64 p2, .int .u64 p3]) ∧ Below w.heap.size w w')
    (hs : (ng == nl) = true)
    (h0 : (decide (p0 = 0) && decide (p1 = 0) && decide (p2 = 0) && decide (p3 = 0)) = false)
    (k5 : ∀ w, Calls Tryz.prog 74 #[.agg #[.int .u64 p0, .int .u64 p1, .int .u64 p2, .int .u64 p3]] w fun e w' => e = .returned (.tuple #[.agg #[.int .u64 r0, .int .u64 r1, .int .u64 r2, .int .u64 r3], .int .i64 k]) ∧ Below w.heap.size w w')
    (q4 : IntKind.i64.wrap (sg + 1) = u) (q5 : IntKind.i64.wrap (u - (k : Int)) = sc) (q6 : bits BinOp.or IntKind.u64 r1 r0 = o) (q7 : (o != 0) = t) (w : World) :
    Calls Tryz.prog 52 #[numV 1 ng sg fg, numV 1 nl sl fl] w fun e w' => e = .returned (.agg #[.int .i64 1, .bool ng, .int .i64 sc, .int .u64 r3, .int .u64 r2, .bool t]) ∧ Below w.heap.size w w' := by
  unfold numV at *
  have heq := eql_words p0 p1 p2 p3
  rw [h0] at heq
  refine cps fun Q hQ => ?_
  go_enter Tryz.func52, Tryz.ntmps52
  go_upto_region 3 with (go_at_call 70; go_must (refine (k0 _).mono ?_); rintro e w1 ⟨rfl, hb1⟩; have R1_0 := (hb1.block (w.heap.size) (by first | (simp; done) | (simp; omega) | omega)).trans ((Below.heap_alloc _ _ _ (by first | (simp; done) | (simp; omega) | omega)).trans ((Below.heap_alloc _ _ _ (by first | (simp; done) | (simp; omega) | omega)).trans (rownew' _ _ _ _ (by simp)))); have z1_0 : w.heap.size < w1.heap.size := Nat.lt_of_lt_of_le (by first | (simp; done) | (simp; omega) | omega) hb1.size; have c1_0_0 := rowcell R1_0 0; have c1_0_1 := rowcell R1_0 1; have c1_0_2 := rowcell R1_0 2; have c1_0_3 := rowcell R1_0 3; simp only [List.getElem?_toArray, List.getElem?_cons_zero, List.getElem?_cons_succ] at c1_0_0 c1_0_1 c1_0_2 c1_0_3; have HR1_0 : Hid _ := R1_0; clear R1_0; have R1_1 := (hb1.block (w.heap.size + 1) (by first | (simp; done) | (simp; omega) | omega)).trans ((Below.heap_alloc _ _ _ (by first | (simp; done) | (simp; omega) | omega)).trans (rownew' _ _ _ _ (by simp))); have z1_1 : w.heap.size + 1 < w1.heap.size := Nat.lt_of_lt_of_le (by first | (simp; done) | (simp; omega) | omega) hb1.size; have c1_1_0 := rowcell R1_1 0; have c1_1_1 := rowcell R1_1 1; have c1_1_2 := rowcell R1_1 2; have c1_1_3 := rowcell R1_1 3; simp only [List.getElem?_toArray, List.getElem?_cons_zero, List.getElem?_cons_succ] at c1_1_0 c1_1_1 c1_1_2 c1_1_3; have HR1_1 : Hid _ := R1_1; clear R1_1; have R1_2 := (hb1.block (w.heap.size + 1 + 1) (by first | (simp; done) | (simp; omega) | omega)).trans (rownew' _ _ _ _ (by simp)); have z1_2 : w.heap.size + 1 + 1 < w1.heap.size := Nat.lt_of_lt_of_le (by first | (simp; done) | (simp; omega) | omega) hb1.size; have HR1_2 : Hid _ := R1_2; clear R1_2; have HB1 : Hid (Below _ _ _) := hb1; clear hb1; have fr0 := rowfree HR1_0.out; have fr1 := rowfree HR1_1.out; have fr2 := rowfree HR1_2.out)
  have HBW : Hid (Below w.heap.size w w1) := cthen (cmore (cmore (cmore (Below.refl _ _) _) _) _) HB1.out
  clear c1_0_0 c1_0_1 c1_0_2 c1_0_3 c1_1_0 c1_1_1 c1_1_2 c1_1_3 fr0 fr1 fr2
  have x3 := rowcell HR1_0.out 3
  simp only [List.getElem?_toArray, List.getElem?_cons_zero, List.getElem?_cons_succ] at x3
  go_wp2_with (first
    | (go_at_call 71; have chk := HB2; go_must (refine (k2 _).mono ?_); rintro e w3 ⟨rfl, hb3⟩; have R3_0 := (hb3.block (w.heap.size) (by first | (simp; done) | (simp; omega) | omega)).trans ((Below.heap_alloc _ _ _ (by first | (simp; done) | (simp; omega) | omega)).trans HR2_0.out); have z3_0 : w.heap.size < w3.heap.size := Nat.lt_of_lt_of_le (by first | (simp; done) | (simp; omega) | omega) hb3.size; have HR3_0 : Hid _ := R3_0; clear R3_0; have R3_1 := (hb3.block (w.heap.size + 1) (by first | (simp; done) | (simp; omega) | omega)).trans ((Below.heap_alloc _ _ _ (by first | (simp; done) | (simp; omega) | omega)).trans HR2_1.out); have z3_1 : w.heap.size + 1 < w3.heap.size := Nat.lt_of_lt_of_le (by first | (simp; done) | (simp; omega) | omega) hb3.size; have HR3_1 : Hid _ := R3_1; clear R3_1; have R3_2 := (hb3.block (w.heap.size + 1 + 1) (by first | (simp; done) | (simp; omega) | omega)).trans ((Below.heap_alloc _ _ _ (by first | (simp; done) | (simp; omega) | omega)).trans HR2_2.out); have z3_2 : w.heap.size + 1 + 1 < w3.heap.size := Nat.lt_of_lt_of_le (by first | (simp; done) | (simp; omega) | omega) hb3.size; have HR3_2 : Hid _ := R3_2; clear R3_2; have R3_3 := (hb3.block (w2.heap.size) (by first | (simp; done) | (simp; omega) | omega)).trans (rownew' _ _ _ _ (by simp)); have z3_3 : w2.heap.size < w3.heap.size := Nat.lt_of_lt_of_le (by first | (simp; done) | (simp; omega) | omega) hb3.size; have c3_3_0 := rowcell R3_3 0; have c3_3_1 := rowcell R3_3 1; have c3_3_2 := rowcell R3_3 2; have c3_3_3 := rowcell R3_3 3; simp only [List.getElem?_toArray, List.getElem?_cons_zero, List.getElem?_cons_succ] at c3_3_0 c3_3_1 c3_3_2 c3_3_3; have HR3_3 : Hid _ := R3_3; clear R3_3; have HB3 : Hid (Below _ _ _) := hb3; clear hb3)
    | (go_at_call 71; go_must (refine (k1 _).mono ?_); rintro e w2 ⟨rfl, hb2⟩; have R2_0 := (hb2.block (w.heap.size) (by first | (simp; done) | (simp; omega) | omega)).trans HR1_0.out; have z2_0 : w.heap.size < w2.heap.size := Nat.lt_of_lt_of_le (by first | (simp; done) | (simp; omega) | omega) hb2.size; have c2_0_2 := rowcell R2_0 2; simp only [List.getElem?_toArray, List.getElem?_cons_zero, List.getElem?_cons_succ] at c2_0_2; have HR2_0 : Hid _ := R2_0; clear R2_0; have R2_1 := (hb2.block (w.heap.size + 1) (by first | (simp; done) | (simp; omega) | omega)).trans HR1_1.out; have z2_1 : w.heap.size + 1 < w2.heap.size := Nat.lt_of_lt_of_le (by first | (simp; done) | (simp; omega) | omega) hb2.size; have c2_1_2 := rowcell R2_1 2; have c2_1_3 := rowcell R2_1 3; simp only [List.getElem?_toArray, List.getElem?_cons_zero, List.getElem?_cons_succ] at c2_1_2 c2_1_3; have HR2_1 : Hid _ := R2_1; clear R2_1; have R2_2 := (hb2.block (w.heap.size + 1 + 1) (by first | (simp; done) | (simp; omega) | omega)).trans HR1_2.out; have z2_2 : w.heap.size + 1 + 1 < w2.heap.size := Nat.lt_of_lt_of_le (by first | (simp; done) | (simp; omega) | omega) hb2.size; have HR2_2 : Hid _ := R2_2; clear R2_2; have HB2 : Hid (Below _ _ _) := hb2; clear hb2)
    | (go_at_call 72; go_must (refine (k3 _).mono ?_); rintro e w4 ⟨rfl, hb4⟩; have R4_0 := (hb4.block (w.heap.size) (by first | (simp; done) | (simp; omega) | omega)).trans ((Below.heap_alloc _ _ _ (by first | (simp; done) | (simp; omega) | omega)).trans HR3_0.out); have z4_0 : w.heap.size < w4.heap.size := Nat.lt_of_lt_of_le (by first | (simp; done) | (simp; omega) | omega) hb4.size; have c4_0_1 := rowcell R4_0 1; simp only [List.getElem?_toArray, List.getElem?_cons_zero, List.getElem?_cons_succ] at c4_0_1; have HR4_0 : Hid _ := R4_0; clear R4_0; have R4_1 := (hb4.block (w.heap.size + 1) (by first | (simp; done) | (simp; omega) | omega)).trans ((Below.heap_alloc _ _ _ (by first | (simp; done) | (simp; omega) | omega)).trans HR3_1.out); have z4_1 : w.heap.size + 1 < w4.heap.size := Nat.lt_of_lt_of_le (by first | (simp; done) | (simp; omega) | omega) hb4.size; have c4_1_1 := rowcell R4_1 1; simp only [List.getElem?_toArray, List.getElem?_cons_zero, List.getElem?_cons_succ] at c4_1_1; have HR4_1 : Hid _ := R4_1; clear R4_1; have R4_2 := (hb4.block (w.heap.size + 1 + 1) (by first | (simp; done) | (simp; omega) | omega)).trans ((Below.heap_alloc _ _ _ (by first | (simp; done) | (simp; omega) | omega)).trans HR3_2.out); have z4_2 : w.heap.size + 1 + 1 < w4.heap.size := Nat.lt_of_lt_of_le (by first | (simp; done) | (simp; omega) | omega) hb4.size; have HR4_2 : Hid _ := R4_2; clear R4_2; have R4_3 := (hb4.block (w2.heap.size) (by first | (simp; done) | (simp; omega) | omega)).trans ((Below.heap_alloc _ _ _ (by first | (simp; done) | (simp; omega) | omega)).trans HR3_3.out); have z4_3 : w2.heap.size < w4.heap.size := Nat.lt_of_lt_of_le (by first | (simp; done) | (simp; omega) | omega) hb4.size; have HR4_3 : Hid _ := R4_3; clear R4_3; have R4_4 := (hb4.block (w3.heap.size) (by first | (simp; done) | (simp; omega) | omega)).trans (rownew' _ _ _ _ (by simp)); have z4_4 : w3.heap.size < w4.heap.size := Nat.lt_of_lt_of_le (by first | (simp; done) | (simp; omega) | omega) hb4.size; have HR4_4 : Hid _ := R4_4; clear R4_4; have HB4 : Hid (Below _ _ _) := hb4; clear hb4)
    | (go_at_call 74; go_must (refine (k5 _).mono ?_); rintro e w5 ⟨rfl, hb5⟩; have R5_0 := (hb5.block (w.heap.size) (by first | (simp; done) | (simp; omega) | omega)).trans ((Below.heap_alloc _ _ _ (by first | (simp; done) | (simp; omega) | omega)).trans HR4_0.out); have z5_0 : w.heap.size < w5.heap.size := Nat.lt_of_lt_of_le (by first | (simp; done) | (simp; omega) | omega) hb5.size; have c5_0_1 := rowcell R5_0 1; have c5_0_2 := rowcell R5_0 2; simp only [List.getElem?_toArray, List.getElem?_cons_zero, List.getElem?_cons_succ] at c5_0_1 c5_0_2; have HR5_0 : Hid _ := R5_0; clear R5_0; have R5_1 := (hb5.block (w.heap.size + 1) (by first | (simp; done) | (simp; omega) | omega)).trans ((Below.heap_alloc _ _ _ (by first | (simp; done) | (simp; omega) | omega)).trans HR4_1.out); have z5_1 : w.heap.size + 1 < w5.heap.size := Nat.lt_of_lt_of_le (by first | (simp; done) | (simp; omega) | omega) hb5.size; have HR5_1 : Hid _ := R5_1; clear R5_1; have R5_2 := (hb5.block (w.heap.size + 1 + 1) (by first | (simp; done) | (simp; omega) | omega)).trans ((Below.heap_alloc _ _ _ (by first | (simp; done) | (simp; omega) | omega)).trans HR4_2.out); have z5_2 : w.heap.size + 1 + 1 < w5.heap.size := Nat.lt_of_lt_of_le (by first | (simp; done) | (simp; omega) | omega) hb5.size; have c5_2_0 := rowcell R5_2 0; have c5_2_1 := rowcell R5_2 1; have c5_2_2 := rowcell R5_2 2; have c5_2_3 := rowcell R5_2 3; have c5_2_4 := rowcell R5_2 4; have c5_2_5 := rowcell R5_2 5; simp only [List.getElem?_toArray, List.getElem?_cons_zero, List.getElem?_cons_succ] at c5_2_0 c5_2_1 c5_2_2 c5_2_3 c5_2_4 c5_2_5; have HR5_2 : Hid _ := R5_2; clear R5_2; have R5_3 := (hb5.block (w2.heap.size) (by first | (simp; done) | (simp; omega) | omega)).trans ((Below.heap_alloc _ _ _ (by first | (simp; done) | (simp; omega) | omega)).trans HR4_3.out); have z5_3 : w2.heap.size < w5.heap.size := Nat.lt_of_lt_of_le (by first | (simp; done) | (simp; omega) | omega) hb5.size; have HR5_3 : Hid _ := R5_3; clear R5_3; have R5_4 := (hb5.block (w3.heap.size) (by first | (simp; done) | (simp; omega) | omega)).trans ((Below.heap_alloc _ _ _ (by first | (simp; done) | (simp; omega) | omega)).trans HR4_4.out); have z5_4 : w3.heap.size < w5.heap.size := Nat.lt_of_lt_of_le (by first | (simp; done) | (simp; omega) | omega) hb5.size; have HR5_4 : Hid _ := R5_4; clear R5_4; have R5_5 := (hb5.block (w4.heap.size) (by first | (simp; done) | (simp; omega) | omega)).trans (rownew' _ _ _ _ (by simp)); have z5_5 : w4.heap.size < w5.heap.size := Nat.lt_of_lt_of_le (by first | (simp; done) | (simp; omega) | omega) hb5.size; have c5_5_0 := rowcell R5_5 0; have c5_5_1 := rowcell R5_5 1; have c5_5_2 := rowcell R5_5 2; have c5_5_3 := rowcell R5_5 3; simp only [List.getElem?_toArray, List.getElem?_cons_zero, List.getElem?_cons_succ] at c5_5_0 c5_5_1 c5_5_2 c5_5_3; have HR5_5 : Hid _ := R5_5; clear R5_5; have HB5 : Hid (Below _ _ _) := hb5; clear hb5; have g5 := rowfree HR5_5.out; have g2 := rowfree HR5_2.out))
  refine bodyPost_ret (v := .agg #[.int .i64 1, .bool ng, .int .i64 sc, .int .u64 r3, .int .u64 r2, .bool t]) (by simp [results, Tryz.results52, go_sem, c5_2_0, c5_2_1, c5_2_2, c5_2_3, c5_2_4, c5_2_5, g2, z5_2, q7]; done) rfl (hQ.out _ _ ⟨rfl, ?_⟩)
  exact cset6 (cset4 (cthen (cmore (cthen (cmore (cthen (cmore (cthen (HBW.out) HB2.out) _) HB3.out) _) HB4.out) _) HB5.out) (by omega)) (by omega)
set_option maxHeartbeats 4000000 in
theorem sreals_stay_diff (ng : Bool) (sg : Int) (fg : Nat) (nl : Bool) (sl : Int) (fl : Nat) (z : Int) (D E : Int) (kk : Nat) (a0 a1 a2 a3 y0 y1 y2 y3 p0 p1 p2 p3 : Int) (m0 m1 m2 m3 : Int) (r0 r1 r2 r3 u sc o : Int) (k : Nat) (t : Bool)
    (k0 : ∀ w, Calls Tryz.prog 70 #[numV 1 ng sg fg, numV 1 nl sl fl] w fun e w' => e = .returned (.int .i64 z) ∧ Below w.heap.size w w')
    (hz : decide (z < 0) = false)
    (k1 : ∀ w, Calls Tryz.prog 71 #[.int .u64 fg, .int .i64 191] w fun e w' => e = .returned (.agg #[.int .u64 a0, .int .u64 a1, .int .u64 a2, .int .u64 a3]) ∧ Below w.heap.size w w')
    (q1 : IntKind.i64.wrap (sg - sl) = D) (q2 : IntKind.i64.wrap (191 - D) = E) (q3 : (if E < 0 then 0 else E) = (kk : Int))
    (k2 : ∀ w, Calls Tryz.prog 71 #[.int .u64 fl, .int .i64 kk] w fun e w' => e = .returned (.agg #[.int .u64 y0, .int .u64 y1, .int .u64 y2, .int .u64 y3]) ∧ Below w.heap.size w w')
    (k3 : ∀ w, Calls Tryz.prog 72 #[.agg #[.int .u64 a0, .int .u64 a1, .int .u64 a2, .int .u64 a3], .agg #[.int .u64 y0, .int .u64 y1, .int .u64 y2, .int .u64 y3]] w fun e w' => e = .returned (.agg #[.int .u64 p0, .int .u64 p1, .int .u64 p2, .int .u64 p3]) ∧ Below w.heap.size w w')
    (hs : (ng == nl) = false)
    (k4 : ∀ w, Calls Tryz.prog 73 #[.agg #[.int .u64 a0, .int .u64 a1, .int .u64 a2, .int .u64 a3], .agg #[.int .u64 y0, .int .u64 y1, .int .u64 y2, .int .u64 y3]] w fun e w' => e = .returned (.agg #[.int .u64 m0, .int .u64 m1, .int .u64 m2, .int .u64 m3]) ∧ Below w.heap.size w w')
    (h0 : (decide (m0 = 0) && decide (m1 = 0) && decide (m2 = 0) && decide (m3 = 0)) = false)
    (k5 : ∀ w, Calls Tryz.prog 74 #[.agg #[.int .u64 m0, .int .u64 m1, .int .u64 m2, .int .u64 m3]] w fun e w' => e = .returned (.tuple #[.agg #[.int .u64 r0, .int .u64 r1, .int .u64 r2, .int .u64 r3], .int .i64 k]) ∧ Below w.heap.size w w')
    (q4 : IntKind.i64.wrap (sg + 1) = u) (q5 : IntKind.i64.wrap (u - (k : Int)) = sc) (q6 : bits BinOp.or IntKind.u64 r1 r0 = o) (q7 : (o != 0) = t) (w : World) :
    Calls Tryz.prog 52 #[numV 1 ng sg fg, numV 1 nl sl fl] w fun e w' => e = .returned (.agg #[.int .i64 1, .bool ng, .int .i64 sc, .int .u64 r3, .int .u64 r2, .bool t]) ∧ Below w.heap.size w w' := by
  unfold numV at *
  have heq := eql_words m0 m1 m2 m3
  rw [h0] at heq
  refine cps fun Q hQ => ?_
  go_enter Tryz.func52, Tryz.ntmps52
  go_upto_region 3 with (go_at_call 70; go_must (refine (k0 _).mono ?_); rintro e w1 ⟨rfl, hb1⟩; have R1_0 := (hb1.block (w.heap.size) (by first | (simp; done) | (simp; omega) | omega)).trans ((Below.heap_alloc _ _ _ (by first | (simp; done) | (simp; omega) | omega)).trans ((Below.heap_alloc _ _ _ (by first | (simp; done) | (simp; omega) | omega)).trans (rownew' _ _ _ _ (by simp)))); have z1_0 : w.heap.size < w1.heap.size := Nat.lt_of_lt_of_le (by first | (simp; done) | (simp; omega) | omega) hb1.size; have c1_0_0 := rowcell R1_0 0; have c1_0_1 := rowcell R1_0 1; have c1_0_2 := rowcell R1_0 2; have c1_0_3 := rowcell R1_0 3; simp only [List.getElem?_toArray, List.getElem?_cons_zero, List.getElem?_cons_succ] at c1_0_0 c1_0_1 c1_0_2 c1_0_3; have HR1_0 : Hid _ := R1_0; clear R1_0; have R1_1 := (hb1.block (w.heap.size + 1) (by first | (simp; done) | (simp; omega) | omega)).trans ((Below.heap_alloc _ _ _ (by first | (simp; done) | (simp; omega) | omega)).trans (rownew' _ _ _ _ (by simp))); have z1_1 : w.heap.size + 1 < w1.heap.size := Nat.lt_of_lt_of_le (by first | (simp; done) | (simp; omega) | omega) hb1.size; have c1_1_0 := rowcell R1_1 0; have c1_1_1 := rowcell R1_1 1; have c1_1_2 := rowcell R1_1 2; have c1_1_3 := rowcell R1_1 3; simp only [List.getElem?_toArray, List.getElem?_cons_zero, List.getElem?_cons_succ] at c1_1_0 c1_1_1 c1_1_2 c1_1_3; have HR1_1 : Hid _ := R1_1; clear R1_1; have R1_2 := (hb1.block (w.heap.size + 1 + 1) (by first | (simp; done) | (simp; omega) | omega)).trans (rownew' _ _ _ _ (by simp)); have z1_2 : w.heap.size + 1 + 1 < w1.heap.size := Nat.lt_of_lt_of_le (by first | (simp; done) | (simp; omega) | omega) hb1.size; have HR1_2 : Hid _ := R1_2; clear R1_2; have HB1 : Hid (Below _ _ _) := hb1; clear hb1; have fr0 := rowfree HR1_0.out; have fr1 := rowfree HR1_1.out; have fr2 := rowfree HR1_2.out)
  have HBW : Hid (Below w.heap.size w w1) := cthen (cmore (cmore (cmore (Below.refl _ _) _) _) _) HB1.out
  clear c1_0_0 c1_0_1 c1_0_2 c1_0_3 c1_1_0 c1_1_1 c1_1_2 c1_1_3 fr0 fr1 fr2
  have x3 := rowcell HR1_0.out 3
  simp only [List.getElem?_toArray, List.getElem?_cons_zero, List.getElem?_cons_succ] at x3
  go_wp2_with (first
    | (go_at_call 71; have chk := HB2; go_must (refine (k2 _).mono ?_); rintro e w3 ⟨rfl, hb3⟩; have R3_0 := (hb3.block (w.heap.size) (by first | (simp; done) | (simp; omega) | omega)).trans ((Below.heap_alloc _ _ _ (by first | (simp; done) | (simp; omega) | omega)).trans HR2_0.out); have z3_0 : w.heap.size < w3.heap.size := Nat.lt_of_lt_of_le (by first | (simp; done) | (simp; omega) | omega) hb3.size; have HR3_0 : Hid _ := R3_0; clear R3_0; have R3_1 := (hb3.block (w.heap.size + 1) (by first | (simp; done) | (simp; omega) | omega)).trans ((Below.heap_alloc _ _ _ (by first | (simp; done) | (simp; omega) | omega)).trans HR2_1.out); have z3_1 : w.heap.size + 1 < w3.heap.size := Nat.lt_of_lt_of_le (by first | (simp; done) | (simp; omega) | omega) hb3.size; have HR3_1 : Hid _ := R3_1; clear R3_1; have R3_2 := (hb3.block (w.heap.size + 1 + 1) (by first | (simp; done) | (simp; omega) | omega)).trans ((Below.heap_alloc _ _ _ (by first | (simp; done) | (simp; omega) | omega)).trans HR2_2.out); have z3_2 : w.heap.size + 1 + 1 < w3.heap.size := Nat.lt_of_lt_of_le (by first | (simp; done) | (simp; omega) | omega) hb3.size; have HR3_2 : Hid _ := R3_2; clear R3_2; have R3_3 := (hb3.block (w2.heap.size) (by first | (simp; done) | (simp; omega) | omega)).trans (rownew' _ _ _ _ (by simp)); have z3_3 : w2.heap.size < w3.heap.size := Nat.lt_of_lt_of_le (by first | (simp; done) | (simp; omega) | omega) hb3.size; have c3_3_0 := rowcell R3_3 0; have c3_3_1 := rowcell R3_3 1; have c3_3_2 := rowcell R3_3 2; have c3_3_3 := rowcell R3_3 3; simp only [List.getElem?_toArray, List.getElem?_cons_zero, List.getElem?_cons_succ] at c3_3_0 c3_3_1 c3_3_2 c3_3_3; have HR3_3 : Hid _ := R3_3; clear R3_3; have HB3 : Hid (Below _ _ _) := hb3; clear hb3)
    | (go_at_call 71; go_must (refine (k1 _).mono ?_); rintro e w2 ⟨rfl, hb2⟩; have R2_0 := (hb2.block (w.heap.size) (by first | (simp; done) | (simp; omega) | omega)).trans HR1_0.out; have z2_0 : w.heap.size < w2.heap.size := Nat.lt_of_lt_of_le (by first | (simp; done) | (simp; omega) | omega) hb2.size; have c2_0_2 := rowcell R2_0 2; simp only [List.getElem?_toArray, List.getElem?_cons_zero, List.getElem?_cons_succ] at c2_0_2; have HR2_0 : Hid _ := R2_0; clear R2_0; have R2_1 := (hb2.block (w.heap.size + 1) (by first | (simp; done) | (simp; omega) | omega)).trans HR1_1.out; have z2_1 : w.heap.size + 1 < w2.heap.size := Nat.lt_of_lt_of_le (by first | (simp; done) | (simp; omega) | omega) hb2.size; have c2_1_2 := rowcell R2_1 2; have c2_1_3 := rowcell R2_1 3; simp only [List.getElem?_toArray, List.getElem?_cons_zero, List.getElem?_cons_succ] at c2_1_2 c2_1_3; have HR2_1 : Hid _ := R2_1; clear R2_1; have R2_2 := (hb2.block (w.heap.size + 1 + 1) (by first | (simp; done) | (simp; omega) | omega)).trans HR1_2.out; have z2_2 : w.heap.size + 1 + 1 < w2.heap.size := Nat.lt_of_lt_of_le (by first | (simp; done) | (simp; omega) | omega) hb2.size; have HR2_2 : Hid _ := R2_2; clear R2_2; have HB2 : Hid (Below _ _ _) := hb2; clear hb2)
    | (go_at_call 72; go_must (refine (k3 _).mono ?_); rintro e w4 ⟨rfl, hb4⟩; have R4_0 := (hb4.block (w.heap.size) (by first | (simp; done) | (simp; omega) | omega)).trans ((Below.heap_alloc _ _ _ (by first | (simp; done) | (simp; omega) | omega)).trans HR3_0.out); have z4_0 : w.heap.size < w4.heap.size := Nat.lt_of_lt_of_le (by first | (simp; done) | (simp; omega) | omega) hb4.size; have c4_0_1 := rowcell R4_0 1; simp only [List.getElem?_toArray, List.getElem?_cons_zero, List.getElem?_cons_succ] at c4_0_1; have HR4_0 : Hid _ := R4_0; clear R4_0; have R4_1 := (hb4.block (w.heap.size + 1) (by first | (simp; done) | (simp; omega) | omega)).trans ((Below.heap_alloc _ _ _ (by first | (simp; done) | (simp; omega) | omega)).trans HR3_1.out); have z4_1 : w.heap.size + 1 < w4.heap.size := Nat.lt_of_lt_of_le (by first | (simp; done) | (simp; omega) | omega) hb4.size; have c4_1_1 := rowcell R4_1 1; simp only [List.getElem?_toArray, List.getElem?_cons_zero, List.getElem?_cons_succ] at c4_1_1; have HR4_1 : Hid _ := R4_1; clear R4_1; have R4_2 := (hb4.block (w.heap.size + 1 + 1) (by first | (simp; done) | (simp; omega) | omega)).trans ((Below.heap_alloc _ _ _ (by first | (simp; done) | (simp; omega) | omega)).trans HR3_2.out); have z4_2 : w.heap.size + 1 + 1 < w4.heap.size := Nat.lt_of_lt_of_le (by first | (simp; done) | (simp; omega) | omega) hb4.size; have HR4_2 : Hid _ := R4_2; clear R4_2; have R4_3 := (hb4.block (w2.heap.size) (by first | (simp; done) | (simp; omega) | omega)).trans ((Below.heap_alloc _ _ _ (by first | (simp; done) | (simp; omega) | omega)).trans HR3_3.out); have z4_3 : w2.heap.size < w4.heap.size := Nat.lt_of_lt_of_le (by first | (simp; done) | (simp; omega) | omega) hb4.size; have c4_3_0 := rowcell R4_3 0; have c4_3_1 := rowcell R4_3 1; have c4_3_2 := rowcell R4_3 2; have c4_3_3 := rowcell R4_3 3; simp only [List.getElem?_toArray, List.getElem?_cons_zero, List.getElem?_cons_succ] at c4_3_0 c4_3_1 c4_3_2 c4_3_3; have HR4_3 : Hid _ := R4_3; clear R4_3; have R4_4 := (hb4.block (w3.heap.size) (by first | (simp; done) | (simp; omega) | omega)).trans (rownew' _ _ _ _ (by simp)); have z4_4 : w3.heap.size < w4.heap.size := Nat.lt_of_lt_of_le (by first | (simp; done) | (simp; omega) | omega) hb4.size; have c4_4_0 := rowcell R4_4 0; have c4_4_1 := rowcell R4_4 1; have c4_4_2 := rowcell R4_4 2; have c4_4_3 := rowcell R4_4 3; simp only [List.getElem?_toArray, List.getElem?_cons_zero, List.getElem?_cons_succ] at c4_4_0 c4_4_1 c4_4_2 c4_4_3; have HR4_4 : Hid _ := R4_4; clear R4_4; have HB4 : Hid (Below _ _ _) := hb4; clear hb4)
    | (go_at_call 73; go_must (refine (k4 _).mono ?_); rintro e w5 ⟨rfl, hb5⟩; have R5_0 := (hb5.block (w.heap.size) (by first | (simp; done) | (simp; omega) | omega)).trans ((Below.heap_alloc _ _ _ (by first | (simp; done) | (simp; omega) | omega)).trans HR4_0.out); have z5_0 : w.heap.size < w5.heap.size := Nat.lt_of_lt_of_le (by first | (simp; done) | (simp; omega) | omega) hb5.size; have HR5_0 : Hid _ := R5_0; clear R5_0; have R5_1 := (hb5.block (w.heap.size + 1) (by first | (simp; done) | (simp; omega) | omega)).trans ((Below.heap_alloc _ _ _ (by first | (simp; done) | (simp; omega) | omega)).trans HR4_1.out); have z5_1 : w.heap.size + 1 < w5.heap.size := Nat.lt_of_lt_of_le (by first | (simp; done) | (simp; omega) | omega) hb5.size; have HR5_1 : Hid _ := R5_1; clear R5_1; have R5_2 := (hb5.block (w.heap.size + 1 + 1) (by first | (simp; done) | (simp; omega) | omega)).trans ((Below.heap_alloc _ _ _ (by first | (simp; done) | (simp; omega) | omega)).trans HR4_2.out); have z5_2 : w.heap.size + 1 + 1 < w5.heap.size := Nat.lt_of_lt_of_le (by first | (simp; done) | (simp; omega) | omega) hb5.size; have HR5_2 : Hid _ := R5_2; clear R5_2; have R5_3 := (hb5.block (w2.heap.size) (by first | (simp; done) | (simp; omega) | omega)).trans ((Below.heap_alloc _ _ _ (by first | (simp; done) | (simp; omega) | omega)).trans HR4_3.out); have z5_3 : w2.heap.size < w5.heap.size := Nat.lt_of_lt_of_le (by first | (simp; done) | (simp; omega) | omega) hb5.size; have HR5_3 : Hid _ := R5_3; clear R5_3; have R5_4 := (hb5.block (w3.heap.size) (by first | (simp; done) | (simp; omega) | omega)).trans ((Below.heap_alloc _ _ _ (by first | (simp; done) | (simp; omega) | omega)).trans HR4_4.out); have z5_4 : w3.heap.size < w5.heap.size := Nat.lt_of_lt_of_le (by first | (simp; done) | (simp; omega) | omega) hb5.size; have HR5_4 : Hid _ := R5_4; clear R5_4; have R5_5 := (hb5.block (w4.heap.size) (by first | (simp; done) | (simp; omega) | omega)).trans (rownew' _ _ _ _ (by simp)); have z5_5 : w4.heap.size < w5.heap.size := Nat.lt_of_lt_of_le (by first | (simp; done) | (simp; omega) | omega) hb5.size; have c5_5_0 := rowcell R5_5 0; have c5_5_1 := rowcell R5_5 1; have c5_5_2 := rowcell R5_5 2; have c5_5_3 := rowcell R5_5 3; simp only [List.getElem?_toArray, List.getElem?_cons_zero, List.getElem?_cons_succ] at c5_5_0 c5_5_1 c5_5_2 c5_5_3; have HR5_5 : Hid _ := R5_5; clear R5_5; have HB5 : Hid (Below _ _ _) := hb5; clear hb5; have f5 := rowfree HR5_5.out; have f2 := rowfree HR5_2.out)
    | (go_at_call 74; go_must (refine (k5 _).mono ?_); rintro e w6 ⟨rfl, hb6⟩; have R6_0 := (hb6.block (w.heap.size) (by first | (simp; done) | (simp; omega) | omega)).trans (row4_other HR5_0.out (by omega)); have z6_0 : w.heap.size < w6.heap.size := Nat.lt_of_lt_of_le (by first | (simp; done) | (simp; omega) | omega) hb6.size; have c6_0_1 := rowcell R6_0 1; have c6_0_2 := rowcell R6_0 2; simp only [List.getElem?_toArray, List.getElem?_cons_zero, List.getElem?_cons_succ] at c6_0_1 c6_0_2; have HR6_0 : Hid _ := R6_0; clear R6_0; have R6_1 := (hb6.block (w.heap.size + 1) (by first | (simp; done) | (simp; omega) | omega)).trans (row4_other HR5_1.out (by omega)); have z6_1 : w.heap.size + 1 < w6.heap.size := Nat.lt_of_lt_of_le (by first | (simp; done) | (simp; omega) | omega) hb6.size; have HR6_1 : Hid _ := R6_1; clear R6_1; have R6_2 := (hb6.block (w.heap.size + 1 + 1) (by first | (simp; done) | (simp; omega) | omega)).trans (row4_other HR5_2.out (by omega)); have z6_2 : w.heap.size + 1 + 1 < w6.heap.size := Nat.lt_of_lt_of_le (by first | (simp; done) | (simp; omega) | omega) hb6.size; have c6_2_0 := rowcell R6_2 0; have c6_2_1 := rowcell R6_2 1; have c6_2_2 := rowcell R6_2 2; have c6_2_3 := rowcell R6_2 3; have c6_2_4 := rowcell R6_2 4; have c6_2_5 := rowcell R6_2 5; simp only [List.getElem?_toArray, List.getElem?_cons_zero, List.getElem?_cons_succ] at c6_2_0 c6_2_1 c6_2_2 c6_2_3 c6_2_4 c6_2_5; have HR6_2 : Hid _ := R6_2; clear R6_2; have R6_3 := (hb6.block (w2.heap.size) (by first | (simp; done) | (simp; omega) | omega)).trans (row4_other HR5_3.out (by omega)); have z6_3 : w2.heap.size < w6.heap.size := Nat.lt_of_lt_of_le (by first | (simp; done) | (simp; omega) | omega) hb6.size; have HR6_3 : Hid _ := R6_3; clear R6_3; have R6_4 := (hb6.block (w3.heap.size) (by first | (simp; done) | (simp; omega) | omega)).trans (row4_other HR5_4.out (by omega)); have z6_4 : w3.heap.size < w6.heap.size := Nat.lt_of_lt_of_le (by first | (simp; done) | (simp; omega) | omega) hb6.size; have HR6_4 : Hid _ := R6_4; clear R6_4; have R6_5 := (hb6.block (w4.heap.size) (by first | (simp; done) | (simp; omega) | omega)).trans (row4 HR5_5.out); have z6_5 : w4.heap.size < w6.heap.size := Nat.lt_of_lt_of_le (by first | (simp; done) | (simp; omega) | omega) hb6.size; have c6_5_0 := rowcell R6_5 0; have c6_5_1 := rowcell R6_5 1; have c6_5_2 := rowcell R6_5 2; have c6_5_3 := rowcell R6_5 3; simp only [List.getElem?_toArray, List.getElem?_cons_zero, List.getElem?_cons_succ] at c6_5_0 c6_5_1 c6_5_2 c6_5_3; have HR6_5 : Hid _ := R6_5; clear R6_5; have HB6 : Hid (Below _ _ _) := hb6; clear hb6; have g5 := rowfree HR6_5.out; have g2 := rowfree HR6_2.out))
  refine bodyPost_ret (v := .agg #[.int .i64 1, .bool ng, .int .i64 sc, .int .u64 r3, .int .u64 r2, .bool t]) (by simp [results, Tryz.results52, go_sem, c6_2_0, c6_2_1, c6_2_2, c6_2_3, c6_2_4, c6_2_5, g2, z6_2, q7]; done) rfl (hQ.out _ _ ⟨rfl, ?_⟩)
  exact cset6 (cset4 (cthen (cset4 (cthen (cmore (cthen (cmore (cthen (cmore (cthen (HBW.out) HB2.out) _) HB3.out) _) HB4.out) _) HB5.out) (by omega)) HB6.out) (by omega)) (by omega)
set_option maxHeartbeats 4000000 in
theorem sreals_stay_zero (ng : Bool) (sg : Int) (fg : Nat) (nl : Bool) (sl : Int) (fl : Nat) (z : Int) (D E : Int) (kk : Nat) (a0 a1 a2 a3 y0 y1 y2 y3 p0 p1 p2 p3 : Int) (m0 m1 m2 m3 : Int)
    (k0 : ∀ w, Calls Tryz.prog 70 #[numV 1 ng sg fg, numV 1 nl sl fl] w fun e w' => e = .returned (.int .i64 z) ∧ Below w.heap.size w w')
    (hz : decide (z < 0) = false)
    (k1 : ∀ w, Calls Tryz.prog 71 #[.int .u64 fg, .int .i64 191] w fun e w' => e = .returned (.agg #[.int .u64 a0, .int .u64 a1, .int .u64 a2, .int .u64 a3]) ∧ Below w.heap.size w w')
    (q1 : IntKind.i64.wrap (sg - sl) = D) (q2 : IntKind.i64.wrap (191 - D) = E) (q3 : (if E < 0 then 0 else E) = (kk : Int))
    (k2 : ∀ w, Calls Tryz.prog 71 #[.int .u64 fl, .int .i64 kk] w fun e w' => e = .returned (.agg #[.int .u64 y0, .int .u64 y1, .int .u64 y2, .int .u64 y3]) ∧ Below w.heap.size w w')
    (k3 : ∀ w, Calls Tryz.prog 72 #[.agg #[.int .u64 a0, .int .u64 a1, .int .u64 a2, .int .u64 a3], .agg #[.int .u64 y0, .int .u64 y1, .int .u64 y2, .int .u64 y3]] w fun e w' => e = .returned (.agg #[.int .u64 p0, .int .u64 p1, .int .u64 p2, .int .u64 p3]) ∧ Below w.heap.size w w')
    (hs : (ng == nl) = false)
    (k4 : ∀ w, Calls Tryz.prog 73 #[.agg #[.int .u64 a0, .int .u64 a1, .int .u64 a2, .int .u64 a3], .agg #[.int .u64 y0, .int .u64 y1, .int .u64 y2, .int .u64 y3]] w fun e w' => e = .returned (.agg #[.int .u64 m0, .int .u64 m1, .int .u64 m2, .int .u64 m3]) ∧ Below w.heap.size w w')
    (h0 : (decide (m0 = 0) && decide (m1 = 0) && decide (m2 = 0) && decide (m3 = 0)) = true) (w : World) :
    Calls Tryz.prog 52 #[numV 1 ng sg fg, numV 1 nl sl fl] w fun e w' => e = .returned (.agg #[.int .i64 0, .bool false, .int .i64 0, .int .u64 0, .int .u64 0, .bool false]) ∧ Below w.heap.size w w' := by
  unfold numV at *
  have heq := eql_words m0 m1 m2 m3
  rw [h0] at heq
  refine cps fun Q hQ => ?_
  go_enter Tryz.func52, Tryz.ntmps52
  go_upto_region 3 with (go_at_call 70; go_must (refine (k0 _).mono ?_); rintro e w1 ⟨rfl, hb1⟩; have R1_0 := (hb1.block (w.heap.size) (by first | (simp; done) | (simp; omega) | omega)).trans ((Below.heap_alloc _ _ _ (by first | (simp; done) | (simp; omega) | omega)).trans ((Below.heap_alloc _ _ _ (by first | (simp; done) | (simp; omega) | omega)).trans (rownew' _ _ _ _ (by simp)))); have z1_0 : w.heap.size < w1.heap.size := Nat.lt_of_lt_of_le (by first | (simp; done) | (simp; omega) | omega) hb1.size; have c1_0_0 := rowcell R1_0 0; have c1_0_1 := rowcell R1_0 1; have c1_0_2 := rowcell R1_0 2; have c1_0_3 := rowcell R1_0 3; simp only [List.getElem?_toArray, List.getElem?_cons_zero, List.getElem?_cons_succ] at c1_0_0 c1_0_1 c1_0_2 c1_0_3; have HR1_0 : Hid _ := R1_0; clear R1_0; have R1_1 := (hb1.block (w.heap.size + 1) (by first | (simp; done) | (simp; omega) | omega)).trans ((Below.heap_alloc _ _ _ (by first | (simp; done) | (simp; omega) | omega)).trans (rownew' _ _ _ _ (by simp))); have z1_1 : w.heap.size + 1 < w1.heap.size := Nat.lt_of_lt_of_le (by first | (simp; done) | (simp; omega) | omega) hb1.size; have c1_1_0 := rowcell R1_1 0; have c1_1_1 := rowcell R1_1 1; have c1_1_2 := rowcell R1_1 2; have c1_1_3 := rowcell R1_1 3; simp only [List.getElem?_toArray, List.getElem?_cons_zero, List.getElem?_cons_succ] at c1_1_0 c1_1_1 c1_1_2 c1_1_3; have HR1_1 : Hid _ := R1_1; clear R1_1; have R1_2 := (hb1.block (w.heap.size + 1 + 1) (by first | (simp; done) | (simp; omega) | omega)).trans (rownew' _ _ _ _ (by simp)); have z1_2 : w.heap.size + 1 + 1 < w1.heap.size := Nat.lt_of_lt_of_le (by first | (simp; done) | (simp; omega) | omega) hb1.size; have HR1_2 : Hid _ := R1_2; clear R1_2; have HB1 : Hid (Below _ _ _) := hb1; clear hb1; have fr0 := rowfree HR1_0.out; have fr1 := rowfree HR1_1.out; have fr2 := rowfree HR1_2.out)
  have HBW : Hid (Below w.heap.size w w1) := cthen (cmore (cmore (cmore (Below.refl _ _) _) _) _) HB1.out
  clear c1_0_0 c1_0_1 c1_0_2 c1_0_3 c1_1_0 c1_1_1 c1_1_2 c1_1_3 fr0 fr1 fr2
  have x3 := rowcell HR1_0.out 3
  simp only [List.getElem?_toArray, List.getElem?_cons_zero, List.getElem?_cons_succ] at x3
  go_wp2_with (first
    | (go_at_call 71; have chk := HB2; go_must (refine (k2 _).mono ?_); rintro e w3 ⟨rfl, hb3⟩; have R3_0 := (hb3.block (w.heap.size) (by first | (simp; done) | (simp; omega) | omega)).trans ((Below.heap_alloc _ _ _ (by first | (simp; done) | (simp; omega) | omega)).trans HR2_0.out); have z3_0 : w.heap.size < w3.heap.size := Nat.lt_of_lt_of_le (by first | (simp; done) | (simp; omega) | omega) hb3.size; have HR3_0 : Hid _ := R3_0; clear R3_0; have R3_1 := (hb3.block (w.heap.size + 1) (by first | (simp; done) | (simp; omega) | omega)).trans ((Below.heap_alloc _ _ _ (by first | (simp; done) | (simp; omega) | omega)).trans HR2_1.out); have z3_1 : w.heap.size + 1 < w3.heap.size := Nat.lt_of_lt_of_le (by first | (simp; done) | (simp; omega) | omega) hb3.size; have HR3_1 : Hid _ := R3_1; clear R3_1; have R3_2 := (hb3.block (w.heap.size + 1 + 1) (by first | (simp; done) | (simp; omega) | omega)).trans ((Below.heap_alloc _ _ _ (by first | (simp; done) | (simp; omega) | omega)).trans HR2_2.out); have z3_2 : w.heap.size + 1 + 1 < w3.heap.size := Nat.lt_of_lt_of_le (by first | (simp; done) | (simp; omega) | omega) hb3.size; have HR3_2 : Hid _ := R3_2; clear R3_2; have R3_3 := (hb3.block (w2.heap.size) (by first | (simp; done) | (simp; omega) | omega)).trans (rownew' _ _ _ _ (by simp)); have z3_3 : w2.heap.size < w3.heap.size := Nat.lt_of_lt_of_le (by first | (simp; done) | (simp; omega) | omega) hb3.size; have c3_3_0 := rowcell R3_3 0; have c3_3_1 := rowcell R3_3 1; have c3_3_2 := rowcell R3_3 2; have c3_3_3 := rowcell R3_3 3; simp only [List.getElem?_toArray, List.getElem?_cons_zero, List.getElem?_cons_succ] at c3_3_0 c3_3_1 c3_3_2 c3_3_3; have HR3_3 : Hid _ := R3_3; clear R3_3; have HB3 : Hid (Below _ _ _) := hb3; clear hb3)
    | (go_at_call 71; go_must (refine (k1 _).mono ?_); rintro e w2 ⟨rfl, hb2⟩; have R2_0 := (hb2.block (w.heap.size) (by first | (simp; done) | (simp; omega) | omega)).trans HR1_0.out; have z2_0 : w.heap.size < w2.heap.size := Nat.lt_of_lt_of_le (by first | (simp; done) | (simp; omega) | omega) hb2.size; have c2_0_2 := rowcell R2_0 2; simp only [List.getElem?_toArray, List.getElem?_cons_zero, List.getElem?_cons_succ] at c2_0_2; have HR2_0 : Hid _ := R2_0; clear R2_0; have R2_1 := (hb2.block (w.heap.size + 1) (by first | (simp; done) | (simp; omega) | omega)).trans HR1_1.out; have z2_1 : w.heap.size + 1 < w2.heap.size := Nat.lt_of_lt_of_le (by first | (simp; done) | (simp; omega) | omega) hb2.size; have c2_1_2 := rowcell R2_1 2; have c2_1_3 := rowcell R2_1 3; simp only [List.getElem?_toArray, List.getElem?_cons_zero, List.getElem?_cons_succ] at c2_1_2 c2_1_3; have HR2_1 : Hid _ := R2_1; clear R2_1; have R2_2 := (hb2.block (w.heap.size + 1 + 1) (by first | (simp; done) | (simp; omega) | omega)).trans HR1_2.out; have z2_2 : w.heap.size + 1 + 1 < w2.heap.size := Nat.lt_of_lt_of_le (by first | (simp; done) | (simp; omega) | omega) hb2.size; have HR2_2 : Hid _ := R2_2; clear R2_2; have HB2 : Hid (Below _ _ _) := hb2; clear hb2)
    | (go_at_call 72; go_must (refine (k3 _).mono ?_); rintro e w4 ⟨rfl, hb4⟩; have R4_0 := (hb4.block (w.heap.size) (by first | (simp; done) | (simp; omega) | omega)).trans ((Below.heap_alloc _ _ _ (by first | (simp; done) | (simp; omega) | omega)).trans HR3_0.out); have z4_0 : w.heap.size < w4.heap.size := Nat.lt_of_lt_of_le (by first | (simp; done) | (simp; omega) | omega) hb4.size; have c4_0_1 := rowcell R4_0 1; simp only [List.getElem?_toArray, List.getElem?_cons_zero, List.getElem?_cons_succ] at c4_0_1; have HR4_0 : Hid _ := R4_0; clear R4_0; have R4_1 := (hb4.block (w.heap.size + 1) (by first | (simp; done) | (simp; omega) | omega)).trans ((Below.heap_alloc _ _ _ (by first | (simp; done) | (simp; omega) | omega)).trans HR3_1.out); have z4_1 : w.heap.size + 1 < w4.heap.size := Nat.lt_of_lt_of_le (by first | (simp; done) | (simp; omega) | omega) hb4.size; have c4_1_1 := rowcell R4_1 1; simp only [List.getElem?_toArray, List.getElem?_cons_zero, List.getElem?_cons_succ] at c4_1_1; have HR4_1 : Hid _ := R4_1; clear R4_1; have R4_2 := (hb4.block (w.heap.size + 1 + 1) (by first | (simp; done) | (simp; omega) | omega)).trans ((Below.heap_alloc _ _ _ (by first | (simp; done) | (simp; omega) | omega)).trans HR3_2.out); have z4_2 : w.heap.size + 1 + 1 < w4.heap.size := Nat.lt_of_lt_of_le (by first | (simp; done) | (simp; omega) | omega) hb4.size; have HR4_2 : Hid _ := R4_2; clear R4_2; have R4_3 := (hb4.block (w2.heap.size) (by first | (simp; done) | (simp; omega) | omega)).trans ((Below.heap_alloc _ _ _ (by first | (simp; done) | (simp; omega) | omega)).trans HR3_3.out); have z4_3 : w2.heap.size < w4.heap.size := Nat.lt_of_lt_of_le (by first | (simp; done) | (simp; omega) | omega) hb4.size; have c4_3_0 := rowcell R4_3 0; have c4_3_1 := rowcell R4_3 1; have c4_3_2 := rowcell R4_3 2; have c4_3_3 := rowcell R4_3 3; simp only [List.getElem?_toArray, List.getElem?_cons_zero, List.getElem?_cons_succ] at c4_3_0 c4_3_1 c4_3_2 c4_3_3; have HR4_3 : Hid _ := R4_3; clear R4_3; have R4_4 := (hb4.block (w3.heap.size) (by first | (simp; done) | (simp; omega) | omega)).trans (rownew' _ _ _ _ (by simp)); have z4_4 : w3.heap.size < w4.heap.size := Nat.lt_of_lt_of_le (by first | (simp; done) | (simp; omega) | omega) hb4.size; have c4_4_0 := rowcell R4_4 0; have c4_4_1 := rowcell R4_4 1; have c4_4_2 := rowcell R4_4 2; have c4_4_3 := rowcell R4_4 3; simp only [List.getElem?_toArray, List.getElem?_cons_zero, List.getElem?_cons_succ] at c4_4_0 c4_4_1 c4_4_2 c4_4_3; have HR4_4 : Hid _ := R4_4; clear R4_4; have HB4 : Hid (Below _ _ _) := hb4; clear hb4)
    | (go_at_call 73; go_must (refine (k4 _).mono ?_); rintro e w5 ⟨rfl, hb5⟩; have R5_0 := (hb5.block (w.heap.size) (by first | (simp; done) | (simp; omega) | omega)).trans ((Below.heap_alloc _ _ _ (by first | (simp; done) | (simp; omega) | omega)).trans HR4_0.out); have z5_0 : w.heap.size < w5.heap.size := Nat.lt_of_lt_of_le (by first | (simp; done) | (simp; omega) | omega) hb5.size; have HR5_0 : Hid _ := R5_0; clear R5_0; have R5_1 := (hb5.block (w.heap.size + 1) (by first | (simp; done) | (simp; omega) | omega)).trans ((Below.heap_alloc _ _ _ (by first | (simp; done) | (simp; omega) | omega)).trans HR4_1.out); have z5_1 : w.heap.size + 1 < w5.heap.size := Nat.lt_of_lt_of_le (by first | (simp; done) | (simp; omega) | omega) hb5.size; have HR5_1 : Hid _ := R5_1; clear R5_1; have R5_2 := (hb5.block (w.heap.size + 1 + 1) (by first | (simp; done) | (simp; omega) | omega)).trans ((Below.heap_alloc _ _ _ (by first | (simp; done) | (simp; omega) | omega)).trans HR4_2.out); have z5_2 : w.heap.size + 1 + 1 < w5.heap.size := Nat.lt_of_lt_of_le (by first | (simp; done) | (simp; omega) | omega) hb5.size; have c5_2_0 := rowcell R5_2 0; have c5_2_1 := rowcell R5_2 1; have c5_2_2 := rowcell R5_2 2; have c5_2_3 := rowcell R5_2 3; have c5_2_4 := rowcell R5_2 4; have c5_2_5 := rowcell R5_2 5; simp only [List.getElem?_toArray, List.getElem?_cons_zero, List.getElem?_cons_succ] at c5_2_0 c5_2_1 c5_2_2 c5_2_3 c5_2_4 c5_2_5; have HR5_2 : Hid _ := R5_2; clear R5_2; have R5_3 := (hb5.block (w2.heap.size) (by first | (simp; done) | (simp; omega) | omega)).trans ((Below.heap_alloc _ _ _ (by first | (simp; done) | (simp; omega) | omega)).trans HR4_3.out); have z5_3 : w2.heap.size < w5.heap.size := Nat.lt_of_lt_of_le (by first | (simp; done) | (simp; omega) | omega) hb5.size; have HR5_3 : Hid _ := R5_3; clear R5_3; have R5_4 := (hb5.block (w3.heap.size) (by first | (simp; done) | (simp; omega) | omega)).trans ((Below.heap_alloc _ _ _ (by first | (simp; done) | (simp; omega) | omega)).trans HR4_4.out); have z5_4 : w3.heap.size < w5.heap.size := Nat.lt_of_lt_of_le (by first | (simp; done) | (simp; omega) | omega) hb5.size; have HR5_4 : Hid _ := R5_4; clear R5_4; have R5_5 := (hb5.block (w4.heap.size) (by first | (simp; done) | (simp; omega) | omega)).trans (rownew' _ _ _ _ (by simp)); have z5_5 : w4.heap.size < w5.heap.size := Nat.lt_of_lt_of_le (by first | (simp; done) | (simp; omega) | omega) hb5.size; have c5_5_0 := rowcell R5_5 0; have c5_5_1 := rowcell R5_5 1; have c5_5_2 := rowcell R5_5 2; have c5_5_3 := rowcell R5_5 3; simp only [List.getElem?_toArray, List.getElem?_cons_zero, List.getElem?_cons_succ] at c5_5_0 c5_5_1 c5_5_2 c5_5_3; have HR5_5 : Hid _ := R5_5; clear R5_5; have HB5 : Hid (Below _ _ _) := hb5; clear hb5; have f5 := rowfree HR5_5.out; have f2 := rowfree HR5_2.out))
  refine bodyPost_ret (v := .agg #[.int .i64 0, .bool false, .int .i64 0, .int .u64 0, .int .u64 0, .bool false]) (by simp [results, Tryz.results52, go_sem, c5_2_0, c5_2_1, c5_2_2, c5_2_3, c5_2_4, c5_2_5, f2, z5_2]; done) rfl (hQ.out _ _ ⟨rfl, ?_⟩)
  exact cset6 (cset4 (cthen (cmore (cthen (cmore (cthen (cmore (cthen (HBW.out) HB2.out) _) HB3.out) _) HB4.out) _) HB5.out) (by omega)) (by omega)
set_option maxHeartbeats 4000000 in
theorem sreals_swap_same (ng : Bool) (sg : Int) (fg : Nat) (nl : Bool) (sl : Int) (fl : Nat) (z : Int) (D E : Int) (kk : Nat) (a0 a1 a2 a3 y0 y1 y2 y3 p0 p1 p2 p3 : Int) (r0 r1 r2 r3 u sc o : Int) (k : Nat) (t : Bool)
    (k0 : ∀ w, Calls Tryz.prog 70 #[numV 1 nl sl fl, numV 1 ng sg fg] w fun e w' => e = .returned (.int .i64 z) ∧ Below w.heap.size w w')
    (hz : decide (z < 0) = true)
    (k1 : ∀ w, Calls Tryz.prog 71 #[.int .u64 fg, .int .i64 191] w fun e w' => e = .returned (.agg #[.int .u64 a0, .int .u64 a1, .int .u64 a2, .int .u64 a3]) ∧ Below w.heap.size w w')
    (q1 : IntKind.i64.wrap (sg - sl) = D) (q2 : IntKind.i64.wrap (191 - D) = E) (q3 : (if E < 0 then 0 else E) = (kk : Int))
    (k2 : ∀ w, Calls Tryz.prog 71 #[.int .u64 fl, .int .i64 kk] w fun e w' => e = .returned (.agg #[.int .u64 y0, .int .u64 y1, .int .u64 y2, .int .u64 y3]) ∧ Below w.heap.size w w')
    (k3 : ∀ w, Calls Tryz.prog 72 #[.agg #[.int .u64 a0, .int .u64 a1, .int .u64 a2, .int .u64 a3], .agg #[.int .u64 y0, .int .u64 y1, .int .u64 y2, .int .u64 y3]] w fun e w' => e = .returned (.agg #[.int .u64 p0, .int .u64 p1, .int .u64 p2, .int .u64 p3]) ∧ Below w.heap.size w w')
    (hs : (ng == nl) = true)
    (h0 : (decide (p0 = 0) && decide (p1 = 0) && decide (p2 = 0) && decide (p3 = 0)) = false)
    (k5 : ∀ w, Calls Tryz.prog 74 #[.agg #[.int .u64 p0, .int .u64 p1, .int .u64 p2, .int .u64 p3]] w fun e w' => e = .returned (.tuple #[.agg #[.int .u64 r0, .int .u64 r1, .int .u64 r2, .int .u64 r3], .int .i64 k]) ∧ Below w.heap.size w w')
    (q4 : IntKind.i64.wrap (sg + 1) = u) (q5 : IntKind.i64.wrap (u - (k : Int)) = sc) (q6 : bits BinOp.or IntKind.u64 r1 r0 = o) (q7 : (o != 0) = t) (w : World) :
    Calls Tryz.prog 52 #[numV 1 nl sl fl, numV 1 ng sg fg] w fun e w' => e = .returned (.agg #[.int .i64 1, .bool ng, .int .i64 sc, .int .u64 r3, .int .u64 r2, .bool t]) ∧ Below w.heap.size w w' := by
  unfold numV at *
  have heq := eql_words p0 p1 p2 p3
  rw [h0] at heq
  refine cps fun Q hQ => ?_
  go_enter Tryz.func52, Tryz.ntmps52
  go_upto_region 3 with (go_at_call 70; go_must (refine (k0 _).mono ?_); rintro e wa ⟨rfl, hb1⟩; have RA_0 := (hb1.block (w.heap.size) (by first | (simp; done) | (simp; omega) | omega)).trans ((Below.heap_alloc _ _ _ (by first | (simp; done) | (simp; omega) | omega)).trans ((Below.heap_alloc _ _ _ (by first | (simp; done) | (simp; omega) | omega)).trans (rownew' _ _ _ _ (by simp)))); have za_0 : w.heap.size < wa.heap.size := Nat.lt_of_lt_of_le (by first | (simp; done) | (simp; omega) | omega) hb1.size; have ca_0_0 := rowcell RA_0 0; have ca_0_1 := rowcell RA_0 1; have ca_0_2 := rowcell RA_0 2; have ca_0_3 := rowcell RA_0 3; simp only [List.getElem?_toArray, List.getElem?_cons_zero, List.getElem?_cons_succ] at ca_0_0 ca_0_1 ca_0_2 ca_0_3; have HA1_0 : Hid _ := RA_0; clear RA_0; have RA_1 := (hb1.block (w.heap.size + 1) (by first | (simp; done) | (simp; omega) | omega)).trans ((Below.heap_alloc _ _ _ (by first | (simp; done) | (simp; omega) | omega)).trans (rownew' _ _ _ _ (by simp))); have za_1 : w.heap.size + 1 < wa.heap.size := Nat.lt_of_lt_of_le (by first | (simp; done) | (simp; omega) | omega) hb1.size; have ca_1_0 := rowcell RA_1 0; have ca_1_1 := rowcell RA_1 1; have ca_1_2 := rowcell RA_1 2; have ca_1_3 := rowcell RA_1 3; simp only [List.getElem?_toArray, List.getElem?_cons_zero, List.getElem?_cons_succ] at ca_1_0 ca_1_1 ca_1_2 ca_1_3; have HA1_1 : Hid _ := RA_1; clear RA_1; have RA_2 := (hb1.block (w.heap.size + 1 + 1) (by first | (simp; done) | (simp; omega) | omega)).trans (rownew' _ _ _ _ (by simp)); have za_2 : w.heap.size + 1 + 1 < wa.heap.size := Nat.lt_of_lt_of_le (by first | (simp; done) | (simp; omega) | omega) hb1.size; have HA1_2 : Hid _ := RA_2; clear RA_2; have HA1 : Hid (Below _ _ _) := hb1; clear hb1; have fr0 := rowfree HA1_0.out; have fr1 := rowfree HA1_1.out; have fr2 := rowfree HA1_2.out)
  generalize hw1 : World.setCell _ _ _ = w1
  have HR1_0 : Hid (w1.heap[w.heap.size]? = some (.cells #[.int .i64 1, .bool ng, .int .i64 sg, .int .u64 fg] 31 (0, 0))) := by show _ = _; rw [← hw1]; exact row4_other (row4 HA1_0.out) (by omega)
  have HR1_1 : Hid (w1.heap[w.heap.size + 1]? = some (.cells #[.int .i64 1, .bool nl, .int .i64 sl, .int .u64 fl] 31 (0, 0))) := by show _ = _; rw [← hw1]; exact row4 (row4_other HA1_1.out (by omega))
  have HR1_2 : Hid (w1.heap[w.heap.size + 1 + 1]? = some (.cells #[.int .i64 0, .bool false, .int .i64 0, .int .u64 0, .int .u64 0, .bool false] 59 (0, 0))) := by show _ = _; rw [← hw1]; exact row4_other (row4_other HA1_2.out (by omega)) (by omega)
  have HBW : Hid (Below w.heap.size w w1) := by show Below _ _ _; rw [← hw1]; exact cset4 (cset4 (cthen (cmore (cmore (cmore (Below.refl _ _) _) _) _) HA1.out) (Nat.le_refl _)) (by omega)
  clear ca_0_0 ca_0_1 ca_0_2 ca_0_3 ca_1_0 ca_1_1 ca_1_2 ca_1_3 fr0 fr1 fr2 hw1 za_0 za_1 za_2
  have z1_0 : w.heap.size < w1.heap.size := rowlt HR1_0.out
  have z1_1 : w.heap.size + 1 < w1.heap.size := rowlt HR1_1.out
  have z1_2 : w.heap.size + 1 + 1 < w1.heap.size := rowlt HR1_2.out
  have x3 := rowcell HR1_0.out 3
  simp only [List.getElem?_toArray, List.getElem?_cons_zero, List.getElem?_cons_succ] at x3
  go_wp2_with (first
    | (go_at_call 71; have chk := HB2; go_must (refine (k2 _).mono ?_); rintro e w3 ⟨rfl, hb3⟩; have R3_0 := (hb3.block (w.heap.size) (by first | (simp; done) | (simp; omega) | omega)).trans ((Below.heap_alloc _ _ _ (by first | (simp; done) | (simp; omega) | omega)).trans HR2_0.out); have z3_0 : w.heap.size < w3.heap.size := Nat.lt_of_lt_of_le (by first | (simp; done) | (simp; omega) | omega) hb3.size; have HR3_0 : Hid _ := R3_0; clear R3_0; have R3_1 := (hb3.block (w.heap.size + 1) (by first | (simp; done) | (simp; omega) | omega)).trans ((Below.heap_alloc _ _ _ (by first | (simp; done) | (simp; omega) | omega)).trans HR2_1.out); have z3_1 : w.heap.size + 1 < w3.heap.size := Nat.lt_of_lt_of_le (by first | (simp; done) | (simp; omega) | omega) hb3.size; have HR3_1 : Hid _ := R3_1; clear R3_1; have R3_2 := (hb3.block (w.heap.size + 1 + 1) (by first | (simp; done) | (simp; omega) | omega)).trans ((Below.heap_alloc _ _ _ (by first | (simp; done) | (simp; omega) | omega)).trans HR2_2.out); have z3_2 : w.heap.size + 1 + 1 < w3.heap.size := Nat.lt_of_lt_of_le (by first | (simp; done) | (simp; omega) | omega) hb3.size; have HR3_2 : Hid _ := R3_2; clear R3_2; have R3_3 := (hb3.block (w2.heap.size) (by first | (simp; done) | (simp; omega) | omega)).trans (rownew' _ _ _ _ (by simp)); have z3_3 : w2.heap.size < w3.heap.size := Nat.lt_of_lt_of_le (by first | (simp; done) | (simp; omega) | omega) hb3.size; have c3_3_0 := rowcell R3_3 0; have c3_3_1 := rowcell R3_3 1; have c3_3_2 := rowcell R3_3 2; have c3_3_3 := rowcell R3_3 3; simp only [List.getElem?_toArray, List.getElem?_cons_zero, List.getElem?_cons_succ] at c3_3_0 c3_3_1 c3_3_2 c3_3_3; have HR3_3 : Hid _ := R3_3; clear R3_3; have HB3 : Hid (Below _ _ _) := hb3; clear hb3)
    | (go_at_call 71; go_must (refine (k1 _).mono ?_); rintro e w2 ⟨rfl, hb2⟩; have R2_0 := (hb2.block (w.heap.size) (by first | (simp; done) | (simp; omega) | omega)).trans HR1_0.out; have z2_0 : w.heap.size < w2.heap.size := Nat.lt_of_lt_of_le (by first | (simp; done) | (simp; omega) | omega) hb2.size; have c2_0_2 := rowcell R2_0 2; simp only [List.getElem?_toArray, List.getElem?_cons_zero, List.getElem?_cons_succ] at c2_0_2; have HR2_0 : Hid _ := R2_0; clear R2_0; have R2_1 := (hb2.block (w.heap.size + 1) (by first | (simp; done) | (simp; omega) | omega)).trans HR1_1.out; have z2_1 : w.heap.size + 1 < w2.heap.size := Nat.lt_of_lt_of_le (by first | (simp; done) | (simp; omega) | omega) hb2.size; have c2_1_2 := rowcell R2_1 2; have c2_1_3 := rowcell R2_1 3; simp only [List.getElem?_toArray, List.getElem?_cons_zero, List.getElem?_cons_succ] at c2_1_2 c2_1_3; have HR2_1 : Hid _ := R2_1; clear R2_1; have R2_2 := (hb2.block (w.heap.size + 1 + 1) (by first | (simp; done) | (simp; omega) | omega)).trans HR1_2.out; have z2_2 : w.heap.size + 1 + 1 < w2.heap.size := Nat.lt_of_lt_of_le (by first | (simp; done) | (simp; omega) | omega) hb2.size; have HR2_2 : Hid _ := R2_2; clear R2_2; have HB2 : Hid (Below _ _ _) := hb2; clear hb2)
    | (go_at_call 72; go_must (refine (k3 _).mono ?_); rintro e w4 ⟨rfl, hb4⟩; have R4_0 := (hb4.block (w.heap.size) (by first | (simp; done) | (simp; omega) | omega)).trans ((Below.heap_alloc _ _ _ (by first | (simp; done) | (simp; omega) | omega)).trans HR3_0.out); have z4_0 : w.heap.size < w4.heap.size := Nat.lt_of_lt_of_le (by first | (simp; done) | (simp; omega) | omega) hb4.size; have c4_0_1 := rowcell R4_0 1; simp only [List.getElem?_toArray, List.getElem?_cons_zero, List.getElem?_cons_succ] at c4_0_1; have HR4_0 : Hid _ := R4_0; clear R4_0; have R4_1 := (hb4.block (w.heap.size + 1) (by first | (simp; done) | (simp; omega) | omega)).trans ((Below.heap_alloc _ _ _ (by first | (simp; done) | (simp; omega) | omega)).trans HR3_1.out); have z4_1 : w.heap.size + 1 < w4.heap.size := Nat.lt_of_lt_of_le (by first | (simp; done) | (simp; omega) | omega) hb4.size; have c4_1_1 := rowcell R4_1 1; simp only [List.getElem?_toArray, List.getElem?_cons_zero, List.getElem?_cons_succ] at c4_1_1; have HR4_1 : Hid _ := R4_1; clear R4_1; have R4_2 := (hb4.block (w.heap.size + 1 + 1) (by first | (simp; done) | (simp; omega) | omega)).trans ((Below.heap_alloc _ _ _ (by first | (simp; done) | (simp; omega) | omega)).trans HR3_2.out); have z4_2 : w.heap.size + 1 + 1 < w4.heap.size := Nat.lt_of_lt_of_le (by first | (simp; done) | (simp; omega) | omega) hb4.size; have HR4_2 : Hid _ := R4_2; clear R4_2; have R4_3 := (hb4.block (w2.heap.size) (by first | (simp; done) | (simp; omega) | omega)).trans ((Below.heap_alloc _ _ _ (by first | (simp; done) | (simp; omega) | omega)).trans HR3_3.out); have z4_3 : w2.heap.size < w4.heap.size := Nat.lt_of_lt_of_le (by first | (simp; done) | (simp; omega) | omega) hb4.size; have HR4_3 : Hid _ := R4_3; clear R4_3; have R4_4 := (hb4.block (w3.heap.size) (by first | (simp; done) | (simp; omega) | omega)).trans (rownew' _ _ _ _ (by simp)); have z4_4 : w3.heap.size < w4.heap.size := Nat.lt_of_lt_of_le (by first | (simp; done) | (simp; omega) | omega) hb4.size; have HR4_4 : Hid _ := R4_4; clear R4_4; have HB4 : Hid (Below _ _ _) := hb4; clear hb4)
    | (go_at_call 74; go_must (refine (k5 _).mono ?_); rintro e w5 ⟨rfl, hb5⟩; have R5_0 := (hb5.block (w.heap.size) (by first | (simp; done) | (simp; omega) | omega)).trans ((Below.heap_alloc _ _ _ (by first | (simp; done) | (simp; omega) | omega)).trans HR4_0.out); have z5_0 : w.heap.size < w5.heap.size := Nat.lt_of_lt_of_le (by first | (simp; done) | (simp; omega) | omega) hb5.size; have c5_0_1 := rowcell R5_0 1; have c5_0_2 := rowcell R5_0 2; simp only [List.getElem?_toArray, List.getElem?_cons_zero, List.getElem?_cons_succ] at c5_0_1 c5_0_2; have HR5_0 : Hid _ := R5_0; clear R5_0; have R5_1 := (hb5.block (w.heap.size + 1) (by first | (simp; done) | (simp; omega) | omega)).trans ((Below.heap_alloc _ _ _ (by first | (simp; done) | (simp; omega) | omega)).trans HR4_1.out); have z5_1 : w.heap.size + 1 < w5.heap.size := Nat.lt_of_lt_of_le (by first | (simp; done) | (simp; omega) | omega) hb5.size; have HR5_1 : Hid _ := R5_1; clear R5_1; have R5_2 := (hb5.block (w.heap.size + 1 + 1) (by first | (simp; done) | (simp; omega) | omega)).trans ((Below.heap_alloc _ _ _ (by first | (simp; done) | (simp; omega) | omega)).trans HR4_2.out); have z5_2 : w.heap.size + 1 + 1 < w5.heap.size := Nat.lt_of_lt_of_le (by first | (simp; done) | (simp; omega) | omega) hb5.size; have c5_2_0 := rowcell R5_2 0; have c5_2_1 := rowcell R5_2 1; have c5_2_2 := rowcell R5_2 2; have c5_2_3 := rowcell R5_2 3; have c5_2_4 := rowcell R5_2 4; have c5_2_5 := rowcell R5_2 5; simp only [List.getElem?_toArray, List.getElem?_cons_zero, List.getElem?_cons_succ] at c5_2_0 c5_2_1 c5_2_2 c5_2_3 c5_2_4 c5_2_5; have HR5_2 : Hid _ := R5_2; clear R5_2; have R5_3 := (hb5.block (w2.heap.size) (by first | (simp; done) | (simp; omega) | omega)).trans ((Below.heap_alloc _ _ _ (by first | (simp; done) | (simp; omega) | omega)).trans HR4_3.out); have z5_3 : w2.heap.size < w5.heap.size := Nat.lt_of_lt_of_le (by first | (simp; done) | (simp; omega) | omega) hb5.size; have HR5_3 : Hid _ := R5_3; clear R5_3; have R5_4 := (hb5.block (w3.heap.size) (by first | (simp; done) | (simp; omega) | omega)).trans ((Below.heap_alloc _ _ _ (by first | (simp; done) | (simp; omega) | omega)).trans HR4_4.out); have z5_4 : w3.heap.size < w5.heap.size := Nat.lt_of_lt_of_le (by first | (simp; done) | (simp; omega) | omega) hb5.size; have HR5_4 : Hid _ := R5_4; clear R5_4; have R5_5 := (hb5.block (w4.heap.size) (by first | (simp; done) | (simp; omega) | omega)).trans (rownew' _ _ _ _ (by simp)); have z5_5 : w4.heap.size < w5.heap.size := Nat.lt_of_lt_of_le (by first | (simp; done) | (simp; omega) | omega) hb5.size; have c5_5_0 := rowcell R5_5 0; have c5_5_1 := rowcell R5_5 1; have c5_5_2 := rowcell R5_5 2; have c5_5_3 := rowcell R5_5 3; simp only [List.getElem?_toArray, List.getElem?_cons_zero, List.getElem?_cons_succ] at c5_5_0 c5_5_1 c5_5_2 c5_5_3; have HR5_5 : Hid _ := R5_5; clear R5_5; have HB5 : Hid (Below _ _ _) := hb5; clear hb5; have g5 := rowfree HR5_5.out; have g2 := rowfree HR5_2.out))
  refine bodyPost_ret (v := .agg #[.int .i64 1, .bool ng, .int .i64 sc, .int .u64 r3, .int .u64 r2, .bool t]) (by simp [results, Tryz.results52, go_sem, c5_2_0, c5_2_1, c5_2_2, c5_2_3, c5_2_4, c5_2_5, g2, z5_2, q7]; done) rfl (hQ.out _ _ ⟨rfl, ?_⟩)
  exact cset6 (cset4 (cthen (cmore (cthen (cmore (cthen (cmore (cthen (HBW.out) HB2.out) _) HB3.out) _) HB4.out) _) HB5.out) (by omega)) (by omega)
set_option maxHeartbeats 4000000 in
theorem sreals_swap_diff (ng : Bool) (sg : Int) (fg : Nat) (nl : Bool) (sl : Int) (fl : Nat) (z : Int) (D E : Int) (kk : Nat) (a0 a1 a2 a3 y0 y1 y2 y3 p0 p1 p2 p3 : Int) (m0 m1 m2 m3 : Int) (r0 r1 r2 r3 u sc o : Int) (k : Nat) (t : Bool)
    (k0 : ∀ w, Calls Tryz.prog 70 #[numV 1 nl sl fl, numV 1 ng sg fg] w fun e w' => e = .returned (.int .i64 z) ∧ Below w.heap.size w w')
    (hz : decide (z < 0) = true)
    (k1 : ∀ w, Calls Tryz.prog 71 #[.int .u64 fg, .int .i64 191] w fun e w' => e = .returned (.agg #[.int .u64 a0, .int .u64 a1, .int .u64 a2, .int .u64 a3]) ∧ Below w.heap.size w w')
    (q1 : IntKind.i64.wrap (sg - sl) = D) (q2 : IntKind.i64.wrap (191 - D) = E) (q3 : (if E < 0 then 0 else E) = (kk : Int))
    (k2 : ∀ w, Calls Tryz.prog 71 #[.int .u64 fl, .int .i64 kk] w fun e w' => e = .returned (.agg #[.int .u64 y0, .int .u64 y1, .int .u64 y2, .int .u64 y3]) ∧ Below w.heap.size w w')
    (k3 : ∀ w, Calls Tryz.prog 72 #[.agg #[.int .u64 a0, .int .u64 a1, .int .u64 a2, .int .u64 a3], .agg #[.int .u64 y0, .int .u64 y1, .int .u64 y2, .int .u64 y3]] w fun e w' => e = .returned (.agg #[.int .u64 p0, .int .u64 p1, .int .u64 p2, .int .u64 p3]) ∧ Below w.heap.size w w')
    (hs : (ng == nl) = false)
    (k4 : ∀ w, Calls Tryz.prog 73 #[.agg #[.int .u64 a0, .int .u64 a1, .int .u64 a2, .int .u64 a3], .agg #[.int .u64 y0, .int .u64 y1, .int .u64 y2, .int .u64 y3]] w fun e w' => e = .returned (.agg #[.int .u64 m0, .int .u64 m1, .int .u64 m2, .int .u64 m3]) ∧ Below w.heap.size w w')
    (h0 : (decide (m0 = 0) && decide (m1 = 0) && decide (m2 = 0) && decide (m3 = 0)) = false)
    (k5 : ∀ w, Calls Tryz.prog 74 #[.agg #[.int .u64 m0, .int .u64 m1, .int .u64 m2, .int .u64 m3]] w fun e w' => e = .returned (.tuple #[.agg #[.int .u64 r0, .int .u64 r1, .int .u64 r2, .int .u64 r3], .int .i64 k]) ∧ Below w.heap.size w w')
    (q4 : IntKind.i64.wrap (sg + 1) = u) (q5 : IntKind.i64.wrap (u - (k : Int)) = sc) (q6 : bits BinOp.or IntKind.u64 r1 r0 = o) (q7 : (o != 0) = t) (w : World) :
    Calls Tryz.prog 52 #[numV 1 nl sl fl, numV 1 ng sg fg] w fun e w' => e = .returned (.agg #[.int .i64 1, .bool ng, .int .i64 sc, .int .u64 r3, .int .u64 r2, .bool t]) ∧ Below w.heap.size w w' := by
  unfold numV at *
  have heq := eql_words m0 m1 m2 m3
  rw [h0] at heq
  refine cps fun Q hQ => ?_
  go_enter Tryz.func52, Tryz.ntmps52
  go_upto_region 3 with (go_at_call 70; go_must (refine (k0 _).mono ?_); rintro e wa ⟨rfl, hb1⟩; have RA_0 := (hb1.block (w.heap.size) (by first | (simp; done) | (simp; omega) | omega)).trans ((Below.heap_alloc _ _ _ (by first | (simp; done) | (simp; omega) | omega)).trans ((Below.heap_alloc _ _ _ (by first | (simp; done) | (simp; omega) | omega)).trans (rownew' _ _ _ _ (by simp)))); have za_0 : w.heap.size < wa.heap.size := Nat.lt_of_lt_of_le (by first | (simp; done) | (simp; omega) | omega) hb1.size; have ca_0_0 := rowcell RA_0 0; have ca_0_1 := rowcell RA_0 1; have ca_0_2 := rowcell RA_0 2; have ca_0_3 := rowcell RA_0 3; simp only [List.getElem?_toArray, List.getElem?_cons_zero, List.getElem?_cons_succ] at ca_0_0 ca_0_1 ca_0_2 ca_0_3; have HA1_0 : Hid _ := RA_0; clear RA_0; have RA_1 := (hb1.block (w.heap.size + 1) (by first | (simp; done) | (simp; omega) | omega)).trans ((Below.heap_alloc _ _ _ (by first | (simp; done) | (simp; omega) | omega)).trans (rownew' _ _ _ _ (by simp))); have za_1 : w.heap.size + 1 < wa.heap.size := Nat.lt_of_lt_of_le (by first | (simp; done) | (simp; omega) | omega) hb1.size; have ca_1_0 := rowcell RA_1 0; have ca_1_1 := rowcell RA_1 1; have ca_1_2 := rowcell RA_1 2; have ca_1_3 := rowcell RA_1 3; simp only [List.getElem?_toArray, List.getElem?_cons_zero, List.getElem?_cons_succ] at ca_1_0 ca_1_1 ca_1_2 ca_1_3; have HA1_1 : Hid _ := RA_1; clear RA_1; have RA_2 := (hb1.block (w.heap.size + 1 + 1) (by first | (simp; done) | (simp; omega) | omega)).trans (rownew' _ _ _ _ (by simp)); have za_2 : w.heap.size + 1 + 1 < wa.heap.size := Nat.lt_of_lt_of_le (by first | (simp; done) | (simp; omega) | omega) hb1.size; have HA1_2 : Hid _ := RA_2; clear RA_2; have HA1 : Hid (Below _ _ _) := hb1; clear hb1; have fr0 := rowfree HA1_0.out; have fr1 := rowfree HA1_1.out; have fr2 := rowfree HA1_2.out)
  generalize hw1 : World.setCell _ _ _ = w1
  have HR1_0 : Hid (w1.heap[w.heap.size]? = some (.cells #[.int .i64 1, .bool ng, .int .i64 sg, .int .u64 fg] 31 (0, 0))) := by show _ = _; rw [← hw1]; exact row4_other (row4 HA1_0.out) (by omega)
  have HR1_1 : Hid (w1.heap[w.heap.size + 1]? = some (.cells #[.int .i64 1, .bool nl, .int .i64 sl, .int .u64 fl] 31 (0, 0))) := by show _ = _; rw [← hw1]; exact row4 (row4_other HA1_1.out (by omega))
  have HR1_2 : Hid (w1.heap[w.heap.size + 1 + 1]? = some (.cells #[.int .i64 0, .bool false, .int .i64 0, .int .u64 0, .int .u64 0, .bool false] 59 (0, 0))) := by show _ = _; rw [← hw1]; exact row4_other (row4_other HA1_2.out (by omega)) (by omega)
  have HBW : Hid (Below w.heap.size w w1) := by show Below _ _ _; rw [← hw1]; exact cset4 (cset4 (cthen (cmore (cmore (cmore (Below.refl _ _) _) _) _) HA1.out) (Nat.le_refl _)) (by omega)
  clear ca_0_0 ca_0_1 ca_0_2 ca_0_3 ca_1_0 ca_1_1 ca_1_2 ca_1_3 fr0 fr1 fr2 hw1 za_0 za_1 za_2
  have z1_0 : w.heap.size < w1.heap.size := rowlt HR1_0.out
  have z1_1 : w.heap.size + 1 < w1.heap.size := rowlt HR1_1.out
  have z1_2 : w.heap.size + 1 + 1 < w1.heap.size := rowlt HR1_2.out
  have x3 := rowcell HR1_0.out 3
  simp only [List.getElem?_toArray, List.getElem?_cons_zero, List.getElem?_cons_succ] at x3
  go_wp2_with (first
    | (go_at_call 71; have chk := HB2; go_must (refine (k2 _).mono ?_); rintro e w3 ⟨rfl, hb3⟩; have R3_0 := (hb3.block (w.heap.size) (by first | (simp; done) | (simp; omega) | omega)).trans ((Below.heap_alloc _ _ _ (by first | (simp; done) | (simp; omega) | omega)).trans HR2_0.out); have z3_0 : w.heap.size < w3.heap.size := Nat.lt_of_lt_of_le (by first | (simp; done) | (simp; omega) | omega) hb3.size; have HR3_0 : Hid _ := R3_0; clear R3_0; have R3_1 := (hb3.block (w.heap.size + 1) (by first | (simp; done) | (simp; omega) | omega)).trans ((Below.heap_alloc _ _ _ (by first | (simp; done) | (simp; omega) | omega)).trans HR2_1.out); have z3_1 : w.heap.size + 1 < w3.heap.size := Nat.lt_of_lt_of_le (by first | (simp; done) | (simp; omega) | omega) hb3.size; have HR3_1 : Hid _ := R3_1; clear R3_1; have R3_2 := (hb3.block (w.heap.size + 1 + 1) (by first | (simp; done) | (simp; omega) | omega)).trans ((Below.heap_alloc _ _ _ (by first | (simp; done) | (simp; omega) | omega)).trans HR2_2.out); have z3_2 : w.heap.size + 1 + 1 < w3.heap.size := Nat.lt_of_lt_of_le (by first | (simp; done) | (simp; omega) | omega) hb3.size; have HR3_2 : Hid _ := R3_2; clear R3_2; have R3_3 := (hb3.block (w2.heap.size) (by first | (simp; done) | (simp; omega) | omega)).trans (rownew' _ _ _ _ (by simp)); have z3_3 : w2.heap.size < w3.heap.size := Nat.lt_of_lt_of_le (by first | (simp; done) | (simp; omega) | omega) hb3.size; have c3_3_0 := rowcell R3_3 0; have c3_3_1 := rowcell R3_3 1; have c3_3_2 := rowcell R3_3 2; have c3_3_3 := rowcell R3_3 3; simp only [List.getElem?_toArray, List.getElem?_cons_zero, List.getElem?_cons_succ] at c3_3_0 c3_3_1 c3_3_2 c3_3_3; have HR3_3 : Hid _ := R3_3; clear R3_3; have HB3 : Hid (Below _ _ _) := hb3; clear hb3)
    | (go_at_call 71; go_must (refine (k1 _).mono ?_); rintro e w2 ⟨rfl, hb2⟩; have R2_0 := (hb2.block (w.heap.size) (by first | (simp; done) | (simp; omega) | omega)).trans HR1_0.out; have z2_0 : w.heap.size < w2.heap.size := Nat.lt_of_lt_of_le (by first | (simp; done) | (simp; omega) | omega) hb2.size; have c2_0_2 := rowcell R2_0 2; simp only [List.getElem?_toArray, List.getElem?_cons_zero, List.getElem?_cons_succ] at c2_0_2; have HR2_0 : Hid _ := R2_0; clear R2_0; have R2_1 := (hb2.block (w.heap.size + 1) (by first | (simp; done) | (simp; omega) | omega)).trans HR1_1.out; have z2_1 : w.heap.size + 1 < w2.heap.size := Nat.lt_of_lt_of_le (by first | (simp; done) | (simp; omega) | omega) hb2.size; have c2_1_2 := rowcell R2_1 2; have c2_1_3 := rowcell R2_1 3; simp only [List.getElem?_toArray, List.getElem?_cons_zero, List.getElem?_cons_succ] at c2_1_2 c2_1_3; have HR2_1 : Hid _ := R2_1; clear R2_1; have R2_2 := (hb2.block (w.heap.size + 1 + 1) (by first | (simp; done) | (simp; omega) | omega)).trans HR1_2.out; have z2_2 : w.heap.size + 1 + 1 < w2.heap.size := Nat.lt_of_lt_of_le (by first | (simp; done) | (simp; omega) | omega) hb2.size; have HR2_2 : Hid _ := R2_2; clear R2_2; have HB2 : Hid (Below _ _ _) := hb2; clear hb2)
    | (go_at_call 72; go_must (refine (k3 _).mono ?_); rintro e w4 ⟨rfl, hb4⟩; have R4_0 := (hb4.block (w.heap.size) (by first | (simp; done) | (simp; omega) | omega)).trans ((Below.heap_alloc _ _ _ (by first | (simp; done) | (simp; omega) | omega)).trans HR3_0.out); have z4_0 : w.heap.size < w4.heap.size := Nat.lt_of_lt_of_le (by first | (simp; done) | (simp; omega) | omega) hb4.size; have c4_0_1 := rowcell R4_0 1; simp only [List.getElem?_toArray, List.getElem?_cons_zero, List.getElem?_cons_succ] at c4_0_1; have HR4_0 : Hid _ := R4_0; clear R4_0; have R4_1 := (hb4.block (w.heap.size + 1) (by first | (simp; done) | (simp; omega) | omega)).trans ((Below.heap_alloc _ _ _ (by first | (simp; done) | (simp; omega) | omega)).trans HR3_1.out); have z4_1 : w.heap.size + 1 < w4.heap.size := Nat.lt_of_lt_of_le (by first | (simp; done) | (simp; omega) | omega) hb4.size; have c4_1_1 := rowcell R4_1 1; simp only [List.getElem?_toArray, List.getElem?_cons_zero, List.getElem?_cons_succ] at c4_1_1; have HR4_1 : Hid _ := R4_1; clear R4_1; have R4_2 := (hb4.block (w.heap.size + 1 + 1) (by first | (simp; done) | (simp; omega) | omega)).trans ((Below.heap_alloc _ _ _ (by first | (simp; done) | (simp; omega) | omega)).trans HR3_2.out); have z4_2 : w.heap.size + 1 + 1 < w4.heap.size := Nat.lt_of_lt_of_le (by first | (simp; done) | (simp; omega) | omega) hb4.size; have HR4_2 : Hid _ := R4_2; clear R4_2; have R4_3 := (hb4.block (w2.heap.size) (by first | (simp; done) | (simp; omega) | omega)).trans ((Below.heap_alloc _ _ _ (by first | (simp; done) | (simp; omega) | omega)).trans HR3_3.out); have z4_3 : w2.heap.size < w4.heap.size := Nat.lt_of_lt_of_le (by first | (simp; done) | (simp; omega) | omega) hb4.size; have c4_3_0 := rowcell R4_3 0; have c4_3_1 := rowcell R4_3 1; have c4_3_2 := rowcell R4_3 2; have c4_3_3 := rowcell R4_3 3; simp only [List.getElem?_toArray, List.getElem?_cons_zero, List.getElem?_cons_succ] at c4_3_0 c4_3_1 c4_3_2 c4_3_3; have HR4_3 : Hid _ := R4_3; clear R4_3; have R4_4 := (hb4.block (w3.heap.size) (by first | (simp; done) | (simp; omega) | omega)).trans (rownew' _ _ _ _ (by simp)); have z4_4 : w3.heap.size < w4.heap.size := Nat.lt_of_lt_of_le (by first | (simp; done) | (simp; omega) | omega) hb4.size; have c4_4_0 := rowcell R4_4 0; have c4_4_1 := rowcell R4_4 1; have c4_4_2 := rowcell R4_4 2; have c4_4_3 := rowcell R4_4 3; simp only [List.getElem?_toArray, List.getElem?_cons_zero, List.getElem?_cons_succ] at c4_4_0 c4_4_1 c4_4_2 c4_4_3; have HR4_4 : Hid _ := R4_4; clear R4_4; have HB4 : Hid (Below _ _ _) := hb4; clear hb4)
    | (go_at_call 73; go_must (refine (k4 _).mono ?_); rintro e w5 ⟨rfl, hb5⟩; have R5_0 := (hb5.block (w.heap.size) (by first | (simp; done) | (simp; omega) | omega)).trans ((Below.heap_alloc _ _ _ (by first | (simp; done) | (simp; omega) | omega)).trans HR4_0.out); have z5_0 : w.heap.size < w5.heap.size := Nat.lt_of_lt_of_le (by first | (simp; done) | (simp; omega) | omega) hb5.size; have HR5_0 : Hid _ := R5_0; clear R5_0; have R5_1 := (hb5.block (w.heap.size + 1) (by first | (simp; done) | (simp; omega) | omega)).trans ((Below.heap_alloc _ _ _ (by first | (simp; done) | (simp; omega) | omega)).trans HR4_1.out); have z5_1 : w.heap.size + 1 < w5.heap.size := Nat.lt_of_lt_of_le (by first | (simp; done) | (simp; omega) | omega) hb5.size; have HR5_1 : Hid _ := R5_1; clear R5_1; have R5_2 := (hb5.block (w.heap.size + 1 + 1) (by first | (simp; done) | (simp; omega) | omega)).trans ((Below.heap_alloc _ _ _ (by first | (simp; done) | (simp; omega) | omega)).trans HR4_2.out); have z5_2 : w.heap.size + 1 + 1 < w5.heap.size := Nat.lt_of_lt_of_le (by first | (simp; done) | (simp; omega) | omega) hb5.size; have HR5_2 : Hid _ := R5_2; clear R5_2; have R5_3 := (hb5.block (w2.heap.size) (by first | (simp; done) | (simp; omega) | omega)).trans ((Below.heap_alloc _ _ _ (by first | (simp; done) | (simp; omega) | omega)).trans HR4_3.out); have z5_3 : w2.heap.size < w5.heap.size := Nat.lt_of_lt_of_le (by first | (simp; done) | (simp; omega) | omega) hb5.size; have HR5_3 : Hid _ := R5_3; clear R5_3; have R5_4 := (hb5.block (w3.heap.size) (by first | (simp; done) | (simp; omega) | omega)).trans ((Below.heap_alloc _ _ _ (by first | (simp; done) | (simp; omega) | omega)).trans HR4_4.out); have z5_4 : w3.heap.size < w5.heap.size := Nat.lt_of_lt_of_le (by first | (simp; done) | (simp; omega) | omega) hb5.size; have HR5_4 : Hid _ := R5_4; clear R5_4; have R5_5 := (hb5.block (w4.heap.size) (by first | (simp; done) | (simp; omega) | omega)).trans (rownew' _ _ _ _ (by simp)); have z5_5 : w4.heap.size < w5.heap.size := Nat.lt_of_lt_of_le (by first | (simp; done) | (simp; omega) | omega) hb5.size; have c5_5_0 := rowcell R5_5 0; have c5_5_1 := rowcell R5_5 1; have c5_5_2 := rowcell R5_5 2; have c5_5_3 := rowcell R5_5 3; simp only [List.getElem?_toArray, List.getElem?_cons_zero, List.getElem?_cons_succ] at c5_5_0 c5_5_1 c5_5_2 c5_5_3; have HR5_5 : Hid _ := R5_5; clear R5_5; have HB5 : Hid (Below _ _ _) := hb5; clear hb5; have f5 := rowfree HR5_5.out; have f2 := rowfree HR5_2.out)
    | (go_at_call 74; go_must (refine (k5 _).mono ?_); rintro e w6 ⟨rfl, hb6⟩; have R6_0 := (hb6.block (w.heap.size) (by first | (simp; done) | (simp; omega) | omega)).trans (row4_other HR5_0.out (by omega)); have z6_0 : w.heap.size < w6.heap.size := Nat.lt_of_lt_of_le (by first | (simp; done) | (simp; omega) | omega) hb6.size; have c6_0_1 := rowcell R6_0 1; have c6_0_2 := rowcell R6_0 2; simp only [List.getElem?_toArray, List.getElem?_cons_zero, List.getElem?_cons_succ] at c6_0_1 c6_0_2; have HR6_0 : Hid _ := R6_0; clear R6_0; have R6_1 := (hb6.block (w.heap.size + 1) (by first | (simp; done) | (simp; omega) | omega)).trans (row4_other HR5_1.out (by omega)); have z6_1 : w.heap.size + 1 < w6.heap.size := Nat.lt_of_lt_of_le (by first | (simp; done) | (simp; omega) | omega) hb6.size; have HR6_1 : Hid _ := R6_1; clear R6_1; have R6_2 := (hb6.block (w.heap.size + 1 + 1) (by first | (simp; done) | (simp; omega) | omega)).trans (row4_other HR5_2.out (by omega)); have z6_2 : w.heap.size + 1 + 1 < w6.heap.size := Nat.lt_of_lt_of_le (by first | (simp; done) | (simp; omega) | omega) hb6.size; have c6_2_0 := rowcell R6_2 0; have c6_2_1 := rowcell R6_2 1; have c6_2_2 := rowcell R6_2 2; have c6_2_3 := rowcell R6_2 3; have c6_2_4 := rowcell R6_2 4; have c6_2_5 := rowcell R6_2 5; simp only [List.getElem?_toArray, List.getElem?_cons_zero, List.getElem?_cons_succ] at c6_2_0 c6_2_1 c6_2_2 c6_2_3 c6_2_4 c6_2_5; have HR6_2 : Hid _ := R6_2; clear R6_2; have R6_3 := (hb6.block (w2.heap.size) (by first | (simp; done) | (simp; omega) | omega)).trans (row4_other HR5_3.out (by omega)); have z6_3 : w2.heap.size < w6.heap.size := Nat.lt_of_lt_of_le (by first | (simp; done) | (simp; omega) | omega) hb6.size; have HR6_3 : Hid _ := R6_3; clear R6_3; have R6_4 := (hb6.block (w3.heap.size) (by first | (simp; done) | (simp; omega) | omega)).trans (row4_other HR5_4.out (by omega)); have z6_4 : w3.heap.size < w6.heap.size := Nat.lt_of_lt_of_le (by first | (simp; done) | (simp; omega) | omega) hb6.size; have HR6_4 : Hid _ := R6_4; clear R6_4; have R6_5 := (hb6.block (w4.heap.size) (by first | (simp; done) | (simp; omega) | omega)).trans (row4 HR5_5.out); have z6_5 : w4.heap.size < w6.heap.size := Nat.lt_of_lt_of_le (by first | (simp; done) | (simp; omega) | omega) hb6.size; have c6_5_0 := rowcell R6_5 0; have c6_5_1 := rowcell R6_5 1; have c6_5_2 := rowcell R6_5 2; have c6_5_3 := rowcell R6_5 3; simp only [List.getElem?_toArray, List.getElem?_cons_zero, List.getElem?_cons_succ] at c6_5_0 c6_5_1 c6_5_2 c6_5_3; have HR6_5 : Hid _ := R6_5; clear R6_5; have HB6 : Hid (Below _ _ _) := hb6; clear hb6; have g5 := rowfree HR6_5.out; have g2 := rowfree HR6_2.out))
  refine bodyPost_ret (v := .agg #[.int .i64 1, .bool ng, .int .i64 sc, .int .u64 r3, .int .u64 r2, .bool t]) (by simp [results, Tryz.results52, go_sem, c6_2_0, c6_2_1, c6_2_2, c6_2_3, c6_2_4, c6_2_5, g2, z6_2, q7]; done) rfl (hQ.out _ _ ⟨rfl, ?_⟩)
  exact cset6 (cset4 (cthen (cset4 (cthen (cmore (cthen (cmore (cthen (cmore (cthen (HBW.out) HB2.out) _) HB3.out) _) HB4.out) _) HB5.out) (by omega)) HB6.out) (by omega)) (by omega)
set_option maxHeartbeats 4000000 in
theorem sreals_swap_zero (ng : Bool) (sg : Int) (fg : Nat) (nl : Bool) (sl : Int) (fl : Nat) (z : Int) (D E : Int) (kk : Nat) (a0 a1 a2 a3 y0 y1 y2 y3 p0 p1 p2 p3 : Int) (m0 m1 m2 m3 : Int)
    (k0 : ∀ w, Calls Tryz.prog 70 #[numV 1 nl sl fl, numV 1 ng sg fg] w fun e w' => e = .returned (.int .i64 z) ∧ Below w.heap.size w w')
    (hz : decide (z < 0) = true)
    (k1 : ∀ w, Calls Tryz.prog 71 #[.int .u64 fg, .int .i64 191] w fun e w' => e = .returned (.agg #[.int .u64 a0, .int .u64 a1, .int .u64 a2, .int .u64 a3]) ∧ Below w.heap.size w w')
    (q1 : IntKind.i64.wrap (sg - sl) = D) (q2 : IntKind.i64.wrap (191 - D) = E) (q3 : (if E < 0 then 0 else E) = (kk : Int))
    (k2 : ∀ w, Calls Tryz.prog 71 #[.int .u64 fl, .int .i64 kk] w fun e w' => e = .returned (.agg #[.int .u64 y0, .int .u64 y1, .int .u64 y2, .int .u64 y3]) ∧ Below w.heap.size w w')
    (k3 : ∀ w, Calls Tryz.prog 72 #[.agg #[.int .u64 a0, .int .u64 a1, .int .u64 a2, .int .u64 a3], .agg #[.int .u64 y0, .int .u64 y1, .int .u64 y2, .int .u64 y3]] w fun e w' => e = .returned (.agg #[.int .u64 p0, .int .u64 p1, .int .u64 p2, .int .u64 p3]) ∧ Below w.heap.size w w')
    (hs : (ng == nl) = false)
    (k4 : ∀ w, Calls Tryz.prog 73 #[.agg #[.int .u64 a0, .int .u64 a1, .int .u64 a2, .int .u64 a3], .agg #[.int .u64 y0, .int .u64 y1, .int .u64 y2, .int .u64 y3]] w fun e w' => e = .returned (.agg #[.int .u64 m0, .int .u64 m1, .int .u64 m2, .int .u64 m3]) ∧ Below w.heap.size w w')
    (h0 : (decide (m0 = 0) && decide (m1 = 0) && decide (m2 = 0) && decide (m3 = 0)) = true) (w : World) :
    Calls Tryz.prog 52 #[numV 1 nl sl fl, numV 1 ng sg fg] w fun e w' => e = .returned (.agg #[.int .i64 0, .bool false, .int .i64 0, .int .u64 0, .int .u64 0, .bool false]) ∧ Below w.heap.size w w' := by
  unfold numV at *
  have heq := eql_words m0 m1 m2 m3
  rw [h0] at heq
  refine cps fun Q hQ => ?_
  go_enter Tryz.func52, Tryz.ntmps52
  go_upto_region 3 with (go_at_call 70; go_must (refine (k0 _).mono ?_); rintro e wa ⟨rfl, hb1⟩; have RA_0 := (hb1.block (w.heap.size) (by first | (simp; done) | (simp; omega) | omega)).trans ((Below.heap_alloc _ _ _ (by first | (simp; done) | (simp; omega) | omega)).trans ((Below.heap_alloc _ _ _ (by first | (simp; done) | (simp; omega) | omega)).trans (rownew' _ _ _ _ (by simp)))); have za_0 : w.heap.size < wa.heap.size := Nat.lt_of_lt_of_le (by first | (simp; done) | (simp; omega) | omega) hb1.size; have ca_0_0 := rowcell RA_0 0; have ca_0_1 := rowcell RA_0 1; have ca_0_2 := rowcell RA_0 2; have ca_0_3 := rowcell RA_0 3; simp only [List.getElem?_toArray, List.getElem?_cons_zero, List.getElem?_cons_succ] at ca_0_0 ca_0_1 ca_0_2 ca_0_3; have HA1_0 : Hid _ := RA_0; clear RA_0; have RA_1 := (hb1.block (w.heap.size + 1) (by first | (simp; done) | (simp; omega) | omega)).trans ((Below.heap_alloc _ _ _ (by first | (simp; done) | (simp; omega) | omega)).trans (rownew' _ _ _ _ (by simp))); have za_1 : w.heap.size + 1 < wa.heap.size := Nat.lt_of_lt_of_le (by first | (simp; done) | (simp; omega) | omega) hb1.size; have ca_1_0 := rowcell RA_1 0; have ca_1_1 := rowcell RA_1 1; have ca_1_2 := rowcell RA_1 2; have ca_1_3 := rowcell RA_1 3; simp only [List.getElem?_toArray, List.getElem?_cons_zero, List.getElem?_cons_succ] at ca_1_0 ca_1_1 ca_1_2 ca_1_3; have HA1_1 : Hid _ := RA_1; clear RA_1; have RA_2 := (hb1.block (w.heap.size + 1 + 1) (by first | (simp; done) | (simp; omega) | omega)).trans (rownew' _ _ _ _ (by simp)); have za_2 : w.heap.size + 1 + 1 < wa.heap.size := Nat.lt_of_lt_of_le (by first | (simp; done) | (simp; omega) | omega) hb1.size; have HA1_2 : Hid _ := RA_2; clear RA_2; have HA1 : Hid (Below _ _ _) := hb1; clear hb1; have fr0 := rowfree HA1_0.out; have fr1 := rowfree HA1_1.out; have fr2 := rowfree HA1_2.out)
  generalize hw1 : World.setCell _ _ _ = w1
  have HR1_0 : Hid (w1.heap[w.heap.size]? = some (.cells #[.int .i64 1, .bool ng, .int .i64 sg, .int .u64 fg] 31 (0, 0))) := by show _ = _; rw [← hw1]; exact row4_other (row4 HA1_0.out) (by omega)
  have HR1_1 : Hid (w1.heap[w.heap.size + 1]? = some (.cells #[.int .i64 1, .bool nl, .int .i64 sl, .int .u64 fl] 31 (0, 0))) := by show _ = _; rw [← hw1]; exact row4 (row4_other HA1_1.out (by omega))
  have HR1_2 : Hid (w1.heap[w.heap.size + 1 + 1]? = some (.cells #[.int .i64 0, .bool false, .int .i64 0, .int .u64 0, .int .u64 0, .bool false] 59 (0, 0))) := by show _ = _; rw [← hw1]; exact row4_other (row4_other HA1_2.out (by omega)) (by omega)
  have HBW : Hid (Below w.heap.size w w1) := by show Below _ _ _; rw [← hw1]; exact cset4 (cset4 (cthen (cmore (cmore (cmore (Below.refl _ _) _) _) _) HA1.out) (Nat.le_refl _)) (by omega)
  clear ca_0_0 ca_0_1 ca_0_2 ca_0_3 ca_1_0 ca_1_1 ca_1_2 ca_1_3 fr0 fr1 fr2 hw1 za_0 za_1 za_2
  have z1_0 : w.heap.size < w1.heap.size := rowlt HR1_0.out
  have z1_1 : w.heap.size + 1 < w1.heap.size := rowlt HR1_1.out
  have z1_2 : w.heap.size + 1 + 1 < w1.heap.size := rowlt HR1_2.out
  have x3 := rowcell HR1_0.out 3
  simp only [List.getElem?_toArray, List.getElem?_cons_zero, List.getElem?_cons_succ] at x3
  go_wp2_with (first
    | (go_at_call 71; have chk := HB2; go_must (refine (k2 _).mono ?_); rintro e w3 ⟨rfl, hb3⟩; have R3_0 := (hb3.block (w.heap.size) (by first | (simp; done) | (simp; omega) | omega)).trans ((Below.heap_alloc _ _ _ (by first | (simp; done) | (simp; omega) | omega)).trans HR2_0.out); have z3_0 : w.heap.size < w3.heap.size := Nat.lt_of_lt_of_le (by first | (simp; done) | (simp; omega) | omega) hb3.size; have HR3_0 : Hid _ := R3_0; clear R3_0; have R3_1 := (hb3.block (w.heap.size + 1) (by first | (simp; done) | (simp; omega) | omega)).trans ((Below.heap_alloc _ _ _ (by first | (simp; done) | (simp; omega) | omega)).trans HR2_1.out); have z3_1 : w.heap.size + 1 < w3.heap.size := Nat.lt_of_lt_of_le (by first | (simp; done) | (simp; omega) | omega) hb3.size; have HR3_1 : Hid _ := R3_1; clear R3_1; have R3_2 := (hb3.block (w.heap.size + 1 + 1) (by first | (simp; done) | (simp; omega) | omega)).trans ((Below.heap_alloc _ _ _ (by first | (simp; done) | (simp; omega) | omega)).trans HR2_2.out); have z3_2 : w.heap.size + 1 + 1 < w3.heap.size := Nat.lt_of_lt_of_le (by first | (simp; done) | (simp; omega) | omega) hb3.size; have HR3_2 : Hid _ := R3_2; clear R3_2; have R3_3 := (hb3.block (w2.heap.size) (by first | (simp; done) | (simp; omega) | omega)).trans (rownew' _ _ _ _ (by simp)); have z3_3 : w2.heap.size < w3.heap.size := Nat.lt_of_lt_of_le (by first | (simp; done) | (simp; omega) | omega) hb3.size; have c3_3_0 := rowcell R3_3 0; have c3_3_1 := rowcell R3_3 1; have c3_3_2 := rowcell R3_3 2; have c3_3_3 := rowcell R3_3 3; simp only [List.getElem?_toArray, List.getElem?_cons_zero, List.getElem?_cons_succ] at c3_3_0 c3_3_1 c3_3_2 c3_3_3; have HR3_3 : Hid _ := R3_3; clear R3_3; have HB3 : Hid (Below _ _ _) := hb3; clear hb3)
    | (go_at_call 71; go_must (refine (k1 _).mono ?_); rintro e w2 ⟨rfl, hb2⟩; have R2_0 := (hb2.block (w.heap.size) (by first | (simp; done) | (simp; omega) | omega)).trans HR1_0.out; have z2_0 : w.heap.size < w2.heap.size := Nat.lt_of_lt_of_le (by first | (simp; done) | (simp; omega) | omega) hb2.size; have c2_0_2 := rowcell R2_0 2; simp only [List.getElem?_toArray, List.getElem?_cons_zero, List.getElem?_cons_succ] at c2_0_2; have HR2_0 : Hid _ := R2_0; clear R2_0; have R2_1 := (hb2.block (w.heap.size + 1) (by first | (simp; done) | (simp; omega) | omega)).trans HR1_1.out; have z2_1 : w.heap.size + 1 < w2.heap.size := Nat.lt_of_lt_of_le (by first | (simp; done) | (simp; omega) | omega) hb2.size; have c2_1_2 := rowcell R2_1 2; have c2_1_3 := rowcell R2_1 3; simp only [List.getElem?_toArray, List.getElem?_cons_zero, List.getElem?_cons_succ] at c2_1_2 c2_1_3; have HR2_1 : Hid _ := R2_1; clear R2_1; have R2_2 := (hb2.block (w.heap.size + 1 + 1) (by first | (simp; done) | (simp; omega) | omega)).trans HR1_2.out; have z2_2 : w.heap.size + 1 + 1 < w2.heap.size := Nat.lt_of_lt_of_le (by first | (simp; done) | (simp; omega) | omega) hb2.size; have HR2_2 : Hid _ := R2_2; clear R2_2; have HB2 : Hid (Below _ _ _) := hb2; clear hb2)
    | (go_at_call 72; go_must (refine (k3 _).mono ?_); rintro e w4 ⟨rfl, hb4⟩; have R4_0 := (hb4.block (w.heap.size) (by first | (simp; done) | (simp; omega) | omega)).trans ((Below.heap_alloc _ _ _ (by first | (simp; done) | (simp; omega) | omega)).trans HR3_0.out); have z4_0 : w.heap.size < w4.heap.size := Nat.lt_of_lt_of_le (by first | (simp; done) | (simp; omega) | omega) hb4.size; have c4_0_1 := rowcell R4_0 1; simp only [List.getElem?_toArray, List.getElem?_cons_zero, List.getElem?_cons_succ] at c4_0_1; have HR4_0 : Hid _ := R4_0; clear R4_0; have R4_1 := (hb4.block (w.heap.size + 1) (by first | (simp; done) | (simp; omega) | omega)).trans ((Below.heap_alloc _ _ _ (by first | (simp; done) | (simp; omega) | omega)).trans HR3_1.out); have z4_1 : w.heap.size + 1 < w4.heap.size := Nat.lt_of_lt_of_le (by first | (simp; done) | (simp; omega) | omega) hb4.size; have c4_1_1 := rowcell R4_1 1; simp only [List.getElem?_toArray, List.getElem?_cons_zero, List.getElem?_cons_succ] at c4_1_1; have HR4_1 : Hid _ := R4_1; clear R4_1; have R4_2 := (hb4.block (w.heap.size + 1 + 1) (by first | (simp; done) | (simp; omega) | omega)).trans ((Below.heap_alloc _ _ _ (by first | (simp; done) | (simp; omega) | omega)).trans HR3_2.out); have z4_2 : w.heap.size + 1 + 1 < w4.heap.size := Nat.lt_of_lt_of_le (by first | (simp; done) | (simp; omega) | omega) hb4.size; have HR4_2 : Hid _ := R4_2; clear R4_2; have R4_3 := (hb4.block (w2.heap.size) (by first | (simp; done) | (simp; omega) | omega)).trans ((Below.heap_alloc _ _ _ (by first | (simp; done) | (simp; omega) | omega)).trans HR3_3.out); have z4_3 : w2.heap.size < w4.heap.size := Nat.lt_of_lt_of_le (by first | (simp; done) | (simp; omega) | omega) hb4.size; have c4_3_0 := rowcell R4_3 0; have c4_3_1 := rowcell R4_3 1; have c4_3_2 := rowcell R4_3 2; have c4_3_3 := rowcell R4_3 3; simp only [List.getElem?_toArray, List.getElem?_cons_zero, List.getElem?_cons_succ] at c4_3_0 c4_3_1 c4_3_2 c4_3_3; have HR4_3 : Hid _ := R4_3; clear R4_3; have R4_4 := (hb4.block (w3.heap.size) (by first | (simp; done) | (simp; omega) | omega)).trans (rownew' _ _ _ _ (by simp)); have z4_4 : w3.heap.size < w4.heap.size := Nat.lt_of_lt_of_le (by first | (simp; done) | (simp; omega) | omega) hb4.size; have c4_4_0 := rowcell R4_4 0; have c4_4_1 := rowcell R4_4 1; have c4_4_2 := rowcell R4_4 2; have c4_4_3 := rowcell R4_4 3; simp only [List.getElem?_toArray, List.getElem?_cons_zero, List.getElem?_cons_succ] at c4_4_0 c4_4_1 c4_4_2 c4_4_3; have HR4_4 : Hid _ := R4_4; clear R4_4; have HB4 : Hid (Below _ _ _) := hb4; clear hb4)
    | (go_at_call 73; go_must (refine (k4 _).mono ?_); rintro e w5 ⟨rfl, hb5⟩; have R5_0 := (hb5.block (w.heap.size) (by first | (simp; done) | (simp; omega) | omega)).trans ((Below.heap_alloc _ _ _ (by first | (simp; done) | (simp; omega) | omega)).trans HR4_0.out); have z5_0 : w.heap.size < w5.heap.size := Nat.lt_of_lt_of_le (by first | (simp; done) | (simp; omega) | omega) hb5.size; have HR5_0 : Hid _ := R5_0; clear R5_0; have R5_1 := (hb5.block (w.heap.size + 1) (by first | (simp; done) | (simp; omega) | omega)).trans ((Below.heap_alloc _ _ _ (by first | (simp; done) | (simp; omega) | omega)).trans HR4_1.out); have z5_1 : w.heap.size + 1 < w5.heap.size := Nat.lt_of_lt_of_le (by first | (simp; done) | (simp; omega) | omega) hb5.size; have HR5_1 : Hid _ := R5_1; clear R5_1; have R5_2 := (hb5.block (w.heap.size + 1 + 1) (by first | (simp; done) | (simp; omega) | omega)).trans ((Below.heap_alloc _ _ _ (by first | (simp; done) | (simp; omega) | omega)).trans HR4_2.out); have z5_2 : w.heap.size + 1 + 1 < w5.heap.size := Nat.lt_of_lt_of_le (by first | (simp; done) | (simp; omega) | omega) hb5.size; have c5_2_0 := rowcell R5_2 0; have c5_2_1 := rowcell R5_2 1; have c5_2_2 := rowcell R5_2 2; have c5_2_3 := rowcell R5_2 3; have c5_2_4 := rowcell R5_2 4; have c5_2_5 := rowcell R5_2 5; simp only [List.getElem?_toArray, List.getElem?_cons_zero, List.getElem?_cons_succ] at c5_2_0 c5_2_1 c5_2_2 c5_2_3 c5_2_4 c5_2_5; have HR5_2 : Hid _ := R5_2; clear R5_2; have R5_3 := (hb5.block (w2.heap.size) (by first | (simp; done) | (simp; omega) | omega)).trans ((Below.heap_alloc _ _ _ (by first | (simp; done) | (simp; omega) | omega)).trans HR4_3.out); have z5_3 : w2.heap.size < w5.heap.size := Nat.lt_of_lt_of_le (by first | (simp; done) | (simp; omega) | omega) hb5.size; have HR5_3 : Hid _ := R5_3; clear R5_3; have R5_4 := (hb5.block (w3.heap.size) (by first | (simp; done) | (simp; omega) | omega)).trans ((Below.heap_alloc _ _ _ (by first | (simp; done) | (simp; omega) | omega)).trans HR4_4.out); have z5_4 : w3.heap.size < w5.heap.size := Nat.lt_of_lt_of_le (by first | (simp; done) | (simp; omega) | omega) hb5.size; have HR5_4 : Hid _ := R5_4; clear R5_4; have R5_5 := (hb5.block (w4.heap.size) (by first | (simp; done) | (simp; omega) | omega)).trans (rownew' _ _ _ _ (by simp)); have z5_5 : w4.heap.size < w5.heap.size := Nat.lt_of_lt_of_le (by first | (simp; done) | (simp; omega) | omega) hb5.size; have c5_5_0 := rowcell R5_5 0; have c5_5_1 := rowcell R5_5 1; have c5_5_2 := rowcell R5_5 2; have c5_5_3 := rowcell R5_5 3; simp only [List.getElem?_toArray, List.getElem?_cons_zero, List.getElem?_cons_succ] at c5_5_0 c5_5_1 c5_5_2 c5_5_3; have HR5_5 : Hid _ := R5_5; clear R5_5; have HB5 : Hid (Below _ _ _) := hb5; clear hb5; have f5 := rowfree HR5_5.out; have f2 := rowfree HR5_2.out))
  refine bodyPost_ret (v := .agg #[.int .i64 0, .bool false, .int .i64 0, .int .u64 0, .int .u64 0, .bool false]) (by simp [results, Tryz.results52, go_sem, c5_2_0, c5_2_1, c5_2_2, c5_2_3, c5_2_4, c5_2_5, f2, z5_2]; done) rfl (hQ.out _ _ ⟨rfl, ?_⟩)
  exact cset6 (cset4 (cthen (cmore (cthen (cmore (cthen (cmore (cthen (HBW.out) HB2.out) _) HB3.out) _) HB4.out) _) HB5.out) (by omega)) (by omega)
end Go.Proofs.YtheliihkkoohnabGreat

namespace Go.Proofs.YtheliihkkoohnabGreat
open Go.ChangeShapes Go.WideShapes Go.ChangeAt Go.RowKit
set_option linter.unusedVariables false
set_option linter.unusedSimpArgs false
set_option maxRecDepth 100000

/-! ### the first 256 bits of a sum are enough (plain mathematics) -/
/-- where the lesser term stands -/
def lowK (s s' : Int) : Nat := (191 - (s - s')).toNat
def sumW (same : Bool) (f g k : Nat) : Nat := if same then f * 2 ^ 191 + g * 2 ^ k else f * 2 ^ 191 - g * 2 ^ k
theorem man_frac (f : Nat) : manX f 0 = f * 2 ^ 64 := by
  unfold manX
  rw [show (2 : Nat) ^ 64 = 18446744073709551616 by decide]
  omega
theorem frac_le {f g d : Nat} (hf : 9223372036854775808 ≤ f) (hg : g ≤ 18446744073709551615) (h : d = 0 → g ≤ f) : g ≤ f * 2 ^ d := by
  by_cases h0 : d = 0
  · subst h0; rw [Nat.pow_zero, Nat.mul_one]; exact h rfl
  · obtain ⟨e, rfl⟩ : ∃ e, d = e + 1 := ⟨d - 1, by omega⟩
    have : 1 ≤ 2 ^ e := Nat.one_le_two_pow
    have h2 : f * 1 ≤ f * 2 ^ e := Nat.mul_le_mul (Nat.le_refl _) this
    rw [Nat.pow_succ, ← Nat.mul_assoc]
    omega
theorem sumD_words (ng : Bool) (s : Int) (f : Nat) (nl : Bool) (s' : Int) (g : Nat) (hf : 9223372036854775808 ≤ f) (hf2 : f ≤ 18446744073709551615) (hg : 9223372036854775808 ≤ g) (hg2 : g ≤ 18446744073709551615)
    (hle : s' ≤ s) (heq : s = s' → g ≤ f) : sumD ng s (manX f 0) nl s' (manX g 0) = exactV ng (sumW (ng == nl) f g (lowK s s')) (s - 254) false := by
  obtain ⟨d, hd⟩ : ∃ d : Nat, (d : Int) = s - s' := ⟨(s - s').toNat, by omega⟩
  have hM : Mant (manX f 0) := by rw [man_frac]; unfold Mant; omega
  have hM' : Mant (manX g 0) := by rw [man_frac]; unfold Mant; omega
  rw [sumD_near ng s _ nl s' _ hM hM' hle d hd]
  have hgd : g ≤ f * 2 ^ d := frac_le hf hg2 (fun h0 => heq (by omega))
  have hle2 : manX g 0 ≤ manX f 0 * 2 ^ d := by
    rw [man_frac, man_frac, Nat.mul_right_comm]
    exact Nat.mul_le_mul hgd (Nat.le_refl _)
  rw [if_pos hle2]
  by_cases hs : ng = nl
  · rw [if_pos hs]
    have hb : (ng == nl) = true := by rw [hs]; simp
    unfold sumW
    rw [hb, if_pos rfl]
    by_cases hd2 : d ≤ 191
    · have hk : lowK s s' = 191 - d := by unfold lowK; omega
      have e1 : manX f 0 * 2 ^ d + manX g 0 = (f * 2 ^ d + g) * 2 ^ 64 := by rw [man_frac, man_frac, Nat.add_mul, Nat.mul_right_comm]
      have e2 : f * 2 ^ 191 + g * 2 ^ (191 - d) = (f * 2 ^ d + g) * 2 ^ (191 - d) := by rw [Nat.add_mul, Nat.mul_assoc, ← Nat.pow_add, show d + (191 - d) = 191 by omega]
      rw [hk, e1, e2, show s - 127 - (d : Int) = (s - 63 - d) - (64 : Nat) by omega, exactV_two, show s - 254 = (s - 63 - d) - ((191 - d : Nat) : Int) by omega, exactV_two]
    · have hk : lowK s s' = 0 := by unfold lowK; omega
      have hlt : manX g 0 < 2 ^ d := Nat.lt_of_lt_of_le hM'.2 (Nat.pow_le_pow_right (by decide) (by omega))
      have m0 : 1 ≤ manX g 0 := by rw [man_frac]; omega
      have a := far_add ng s (B := manX g 0) (d := d) hM m0 hlt
      have b := far_add ng s (M := manX f 0) (B := g) (d := 127) hM (by omega) (by omega)
      rw [hk, Nat.pow_zero, Nat.mul_one, a, ← b, man_frac, Nat.mul_assoc, ← Nat.pow_add, show s - 127 - ((127 : Nat) : Int) = s - 254 by omega]
  · rw [if_neg hs]
    have hb : (ng == nl) = false := beq_eq_false_iff_ne.2 hs
    unfold sumW
    rw [hb, if_neg (by decide)]
    by_cases hd2 : d ≤ 191
    · have hk : lowK s s' = 191 - d := by unfold lowK; omega
      have e1 : manX f 0 * 2 ^ d - manX g 0 = (f * 2 ^ d - g) * 2 ^ 64 := by rw [man_frac, man_frac, Nat.sub_mul, Nat.mul_right_comm]
      have e2 : f * 2 ^ 191 - g * 2 ^ (191 - d) = (f * 2 ^ d - g) * 2 ^ (191 - d) := by rw [Nat.sub_mul, Nat.mul_assoc, ← Nat.pow_add, show d + (191 - d) = 191 by omega]
      rw [hk, e1, e2, show s - 127 - (d : Int) = (s - 63 - d) - (64 : Nat) by omega, exactV_two, show s - 254 = (s - 63 - d) - ((191 - d : Nat) : Int) by omega, exactV_two]
    · have hk : lowK s s' = 0 := by unfold lowK; omega
      obtain ⟨e, rfl⟩ : ∃ e, d = e + 1 := ⟨d - 1, by omega⟩
      have hlt : manX g 0 < 2 ^ e := Nat.lt_of_lt_of_le hM'.2 (Nat.pow_le_pow_right (by decide) (by omega))
      have m0 : 1 ≤ manX g 0 := by rw [man_frac]; omega
      have a := far_sub ng s (B := manX g 0) (d := e) hM m0 hlt
      have b := far_sub ng s (M := manX f 0) (B := g) (d := 126) hM (by omega) (by omega)
      rw [hk, Nat.pow_zero, Nat.mul_one, a, ← b, show 126 + 1 = 127 from rfl, man_frac, Nat.mul_assoc, ← Nat.pow_add, show s - 127 - ((127 : Nat) : Int) = s - 254 by omega]
theorem sumW_lt {same : Bool} {f g k : Nat} (hf2 : f ≤ 18446744073709551615) (hg2 : g ≤ 18446744073709551615) (hk : k ≤ 191) : f * 2 ^ 191 < 2 ^ 255 ∧ g * 2 ^ k < 2 ^ 255 ∧ sumW same f g k < 2 ^ 256 := by
  have h1 : f * 2 ^ 191 < 2 ^ 255 := by
    rw [show 255 = 64 + 191 from rfl, Nat.pow_add 2 64 191]
    exact (Nat.mul_lt_mul_right (Nat.pow_pos (by decide))).2 (by omega)
  have h2 : g * 2 ^ k < 2 ^ 255 := by
    have a : 2 ^ k ≤ 2 ^ 191 := Nat.pow_le_pow_right (by decide) hk
    refine Nat.lt_of_le_of_lt (Nat.mul_le_mul (Nat.le_refl g) a) ?_
    rw [show 255 = 64 + 191 from rfl, Nat.pow_add 2 64 191]
    exact (Nat.mul_lt_mul_right (Nat.pow_pos (by decide))).2 (by omega)
  refine ⟨h1, h2, ?_⟩
  unfold sumW
  rw [show (2 : Nat) ^ 256 = 2 ^ 255 * 2 from Nat.pow_succ 2 255]
  generalize 2 ^ 255 = P at *
  generalize f * 2 ^ 191 = X at *
  generalize g * 2 ^ k = Y at *
  split <;> omega
/-- the first digits of a number that stands as high as it may -/
theorem exactV_top (neg : Bool) {n k a b c d : Nat} (s : Int) (hn : n ≠ 0) (hk : k + blen n = 256) (h : Qw (n * 2 ^ k) a b c d) (hs : -1073741824 ≤ s ∧ s ≤ 1073741824) :
    exactV neg n (s - 254) false = exV 1 neg (s + 1 - k) d c (decide (a ≠ 0 ∨ b ≠ 0)) := by
  obtain ⟨n1, n2⟩ := norm_two k hn
  have hb := blen_two k hn
  have hn0 : n * 2 ^ k ≠ 0 := fun c => by
    rcases Nat.mul_eq_zero.1 c with c | c
    · exact hn c
    · exact absurd c (Nat.pos_iff_ne_zero.1 (Nat.pow_pos (by decide)))
  have h256 : blen (n * 2 ^ k) = 256 := by omega
  have lo := blen_lo hn0
  rw [h256] at lo
  have hi : n * 2 ^ k < 2 ^ 256 := blen_le.1 (by omega)
  obtain ⟨_, m1, m2⟩ := @norm_at (n * 2 ^ k) 128 lo hi
  obtain ⟨e, h0, h1, h2, h3⟩ := h
  have w1 : n * 2 ^ k / 2 ^ 128 / 2 ^ 64 % 2 ^ 64 = d := by
    rw [show (2 : Nat) ^ 128 = 340282366920938463463374607431768211456 by decide, show (2 : Nat) ^ 64 = 18446744073709551616 by decide]
    omega
  have w2 : n * 2 ^ k / 2 ^ 128 % 2 ^ 64 = c := by
    rw [show (2 : Nat) ^ 128 = 340282366920938463463374607431768211456 by decide, show (2 : Nat) ^ 64 = 18446744073709551616 by decide]
    omega
  have w3 : decide (n * 2 ^ k % 2 ^ 128 ≠ 0) = decide (a ≠ 0 ∨ b ≠ 0) := by
    refine decide_eq_decide.2 ?_
    rw [show (2 : Nat) ^ 128 = 340282366920938463463374607431768211456 by decide]
    omega
  have hx : heldX (s - 254 + (blen n : Int) - 1) = s + 1 - (k : Int) := by
    have hk2 : 1 ≤ blen n := by rw [blen_pos hn]; omega
    unfold heldX
    rw [if_neg (by omega), if_neg (by omega)]
    omega
  unfold exactV
  rw [if_neg hn, hx, ← n1, ← n2, m1, m2, w1, w2, w3, Bool.false_or]
end Go.Proofs.YtheliihkkoohnabGreat

namespace Go.Proofs.YtheliihkkoohnabGreat
open Go.ChangeShapes Go.WideShapes Go.ChangeAt Go.RowKit
set_option linter.unusedVariables false
set_option linter.unusedSimpArgs false
set_option maxRecDepth 100000

/-! ### package sum: the sum of two reals -/
theorem qw_ex {n : Nat} (h : n < 2 ^ 256) : ∃ a b c d, Qw n a b c d :=
  ⟨_, _, _, _, qw_of (by rw [show (115792089237316195423570985008687907853269984665640564039457584007913129639936 : Nat) = 2 ^ 256 by decide]; exact h)⟩
theorem qw_zero {n a b c d : Nat} (h : Qw n a b c d) : (decide ((a : Int) = 0) && decide ((b : Int) = 0) && decide ((c : Int) = 0) && decide ((d : Int) = 0)) = decide (n = 0) := by
  obtain ⟨e, h0, h1, h2, h3⟩ := h
  rw [← Bool.decide_and, ← Bool.decide_and, ← Bool.decide_and]
  refine decide_eq_decide.2 ?_
  omega
theorem or_rest (a b : Nat) (ha : a ≤ 18446744073709551615) (hb : b ≤ 18446744073709551615) : bits BinOp.or IntKind.u64 (b : Int) (a : Int) = ((b ||| a : Nat) : Int) ∧ (((b ||| a : Nat) : Int) != 0) = decide (a ≠ 0 ∨ b ≠ 0) := by
  refine ⟨u64_or_nat b a (by omega) (by omega), ?_⟩
  have e : b ||| a = 0 ↔ b = 0 ∧ a = 0 := Nat.or_eq_zero_iff
  by_cases h : b ||| a = 0
  · obtain ⟨rfl, rfl⟩ := e.1 h
    rfl
  · rw [decide_eq_true (by
      by_cases h0 : a = 0
      · exact .inr (fun c => h (e.2 ⟨c, h0⟩))
      · exact .inl h0)]
    rw [bne_iff_ne]
    omega
theorem risen_at {n : Nat} (h : n ≠ 0) (h2 : n < 2 ^ 256) : ∃ k a b c d, k + blen n = 256 ∧ Qw (n * 2 ^ k) a b c d := by
  have hb : blen n ≤ 256 := blen_le.2 h2
  obtain ⟨k, hk⟩ : ∃ k, k + blen n = 256 := ⟨256 - blen n, by omega⟩
  have e := blen_two k h
  obtain ⟨a, b, c, d, hq⟩ := qw_ex (n := n * 2 ^ k) (blen_le.1 (by omega))
  exact ⟨k, a, b, c, d, hk, hq⟩
theorem sreals_up (ng : Bool) (s : Int) (f : Nat) (nl : Bool) (s' : Int) (g : Nat) (hf : 9223372036854775808 ≤ f) (hf2 : f ≤ 18446744073709551615) (hg : 9223372036854775808 ≤ g) (hg2 : g ≤ 18446744073709551615)
    (hs : -1073741824 ≤ s ∧ s ≤ 1073741824) (hs' : -1073741824 ≤ s' ∧ s' ≤ 1073741824) (hle : s' ≤ s) (heq : s = s' → g ≤ f) (w : World) :
    ((s = s' → g ≤ f) → Calls Tryz.prog 52 #[numV 1 ng s f, numV 1 nl s' g] w fun e w' => e = .returned (exactV ng (sumW (ng == nl) f g (lowK s s')) (s - 254) false) ∧ Below w.heap.size w w') ∧
    ((s = s' → g < f) → Calls Tryz.prog 52 #[numV 1 nl s' g, numV 1 ng s f] w fun e w' => e = .returned (exactV ng (sumW (ng == nl) f g (lowK s s')) (s - 254) false) ∧ Below w.heap.size w w') := by
  have hk : lowK s s' ≤ 191 := by unfold lowK; omega
  obtain ⟨b1, b2, b3⟩ := sumW_lt (same := (ng == nl)) hf2 hg2 hk
  obtain ⟨_, _, b4⟩ := sumW_lt (same := true) hf2 hg2 hk
  have b4' : f * 2 ^ 191 + g * 2 ^ lowK s s' < 2 ^ 256 := b4
  have bl : ∀ x, x < 2 ^ 255 → x < 2 ^ 256 := fun x h => Nat.lt_trans h (Nat.pow_lt_pow_right (by decide) (by decide))
  have hgf : g * 2 ^ lowK s s' ≤ f * 2 ^ 191 := by
    obtain ⟨d, hd⟩ : ∃ d : Nat, (d : Int) = s - s' := ⟨(s - s').toNat, by omega⟩
    by_cases hd2 : d ≤ 191
    · have e : lowK s s' = 191 - d := by unfold lowK; omega
      have h1 := Nat.mul_le_mul (frac_le hf hg2 (fun h0 => heq (by omega)) : g ≤ f * 2 ^ d) (Nat.le_refl (2 ^ (191 - d)))
      rw [Nat.mul_assoc, ← Nat.pow_add, show d + (191 - d) = 191 by omega] at h1
      rw [e]; exact h1
    · have e : lowK s s' = 0 := by unfold lowK; omega
      rw [e, Nat.pow_zero, Nat.mul_one]
      exact Nat.le_trans (Nat.le_trans hg2 (by omega)) (Nat.le_mul_of_pos_left _ (by omega))
  obtain ⟨a0, a1, a2, a3, ca⟩ := qw_ex (bl _ b1)
  obtain ⟨y0, y1, y2, y3, cy⟩ := qw_ex (bl _ b2)
  obtain ⟨p0, p1, p2, p3, cp⟩ := qw_ex b4'
  have k1 := fun w => splaced_any (k := 191) hf2 (Nat.le_refl _) ca w
  have k2 := fun w => splaced_any hg2 hk cy w
  have k3 := fun w => splus_any ca cy cp w
  have ks := fun w => scompare_any 1 ng s f 1 nl s' g w
  have kw := fun w => scompare_any 1 nl s' g 1 ng s f w
  have zs : (s = s' → g ≤ f) → decide (cmpR2 s f s' g < 0) = false := fun h => decide_eq_false (fun c => by
    rcases (cmpR2_lt s f s' g).1 c with c | ⟨c, d⟩
    · omega
    · have := h c
      omega)
  have zw : (s = s' → g < f) → decide (cmpR2 s' g s f < 0) = true := fun h => decide_eq_true ((cmpR2_lt s' g s f).2 (by
    by_cases c : s = s'
    · exact .inr ⟨c.symm, h c⟩
    · exact .inl (by omega)))
  have q1 : IntKind.i64.wrap (s - s') = s - s' := wrapI (by omega)
  have q2 : IntKind.i64.wrap (191 - (s - s')) = 191 - (s - s') := wrapI (by omega)
  have q3 : (if 191 - (s - s') < 0 then 0 else 191 - (s - s')) = ((lowK s s' : Nat) : Int) := by unfold lowK; split <;> omega
  have q4 : IntKind.i64.wrap (s + 1) = s + 1 := wrapI (by omega)
  have hX : 0 < f * 2 ^ 191 := Nat.mul_pos (by omega) (Nat.pow_pos (by decide))
  by_cases hn : ng = nl
  · have hb : (ng == nl) = true := by rw [hn]; simp
    have hv : sumW (ng == nl) f g (lowK s s') = f * 2 ^ 191 + g * 2 ^ lowK s s' := by unfold sumW; rw [hb, if_pos rfl]
    rw [hv]
    have h0 : f * 2 ^ 191 + g * 2 ^ lowK s s' ≠ 0 := by omega
    obtain ⟨k, r0, r1, r2, r3, hkb, cr⟩ := risen_at h0 b4'
    have hbl : 1 ≤ blen (f * 2 ^ 191 + g * 2 ^ lowK s s') := by rw [blen_pos h0]; omega
    have k5 := fun w => srisen_any cp h0 hkb cr w
    obtain ⟨q6, q7⟩ := or_rest r0 r1 cr.h0 cr.h1
    have q5 : IntKind.i64.wrap (s + 1 - (k : Int)) = s + 1 - k := wrapI (by omega)
    have hz := qw_zero cp
    rw [decide_eq_false h0] at hz
    rw [exactV_top ng s h0 hkb cr hs]
    exact ⟨fun h => sreals_stay_same ng s f nl s' g _ _ _ _ _ _ _ _ _ _ _ _ _ _ _ _ _ _ _ _ _ _ _ k _ ks (zs h) k1 q1 q2 q3 k2 k3 hb hz k5 q4 q5 q6 q7 w,
      fun h => sreals_swap_same ng s f nl s' g _ _ _ _ _ _ _ _ _ _ _ _ _ _ _ _ _ _ _ _ _ _ _ k _ kw (zw h) k1 q1 q2 q3 k2 k3 hb hz k5 q4 q5 q6 q7 w⟩
  · have hb : (ng == nl) = false := beq_eq_false_iff_ne.2 hn
    have hv : sumW (ng == nl) f g (lowK s s') = f * 2 ^ 191 - g * 2 ^ lowK s s' := by unfold sumW; rw [hb, if_neg (by decide)]
    rw [hv] at b3 ⊢
    obtain ⟨m0, m1, m2, m3, cm⟩ := qw_ex b3
    have k4 := fun w => sminus_any ca cy hgf cm w
    have hz := qw_zero cm
    by_cases h0 : f * 2 ^ 191 - g * 2 ^ lowK s s' = 0
    · rw [decide_eq_true h0] at hz
      have he : exactV ng (f * 2 ^ 191 - g * 2 ^ lowK s s') (s - 254) false = exV 0 false 0 0 0 false := by unfold exactV; rw [if_pos h0]
      rw [he]
      exact ⟨fun h => sreals_stay_zero ng s f nl s' g _ _ _ _ _ _ _ _ _ _ _ _ _ _ _ _ _ _ _ _ ks (zs h) k1 q1 q2 q3 k2 k3 hb k4 hz w,
        fun h => sreals_swap_zero ng s f nl s' g _ _ _ _ _ _ _ _ _ _ _ _ _ _ _ _ _ _ _ _ kw (zw h) k1 q1 q2 q3 k2 k3 hb k4 hz w⟩
    · rw [decide_eq_false h0] at hz
      obtain ⟨k, r0, r1, r2, r3, hkb, cr⟩ := risen_at h0 b3
      have hbl : 1 ≤ blen (f * 2 ^ 191 - g * 2 ^ lowK s s') := by rw [blen_pos h0]; omega
      have k5 := fun w => srisen_any cm h0 hkb cr w
      obtain ⟨q6, q7⟩ := or_rest r0 r1 cr.h0 cr.h1
      have q5 : IntKind.i64.wrap (s + 1 - (k : Int)) = s + 1 - k := wrapI (by omega)
      rw [exactV_top ng s h0 hkb cr hs]
      exact ⟨fun h => sreals_stay_diff ng s f nl s' g _ _ _ _ _ _ _ _ _ _ _ _ _ _ _ _ _ _ _ _ _ _ _ _ _ _ _ k _ ks (zs h) k1 q1 q2 q3 k2 k3 hb k4 hz k5 q4 q5 q6 q7 w,
        fun h => sreals_swap_diff ng s f nl s' g _ _ _ _ _ _ _ _ _ _ _ _ _ _ _ _ _ _ _ _ _ _ _ _ _ _ _ k _ kw (zw h) k1 q1 q2 q3 k2 k3 hb k4 hz k5 q4 q5 q6 q7 w⟩
end Go.Proofs.YtheliihkkoohnabGreat

namespace Go.Proofs.YtheliihkkoohnabGreat
open Go.ChangeShapes Go.WideShapes Go.ChangeAt Go.RowKit
set_option linter.unusedVariables false
set_option linter.unusedSimpArgs false
set_option maxRecDepth 100000

theorem sreals_any (neg : Bool) (s : Int) (f : Nat) (neg' : Bool) (s' : Int) (g : Nat) (hf : f < 2 ^ 64) (hg : g < 2 ^ 64) (h1 : soundN 1 neg s f = true) (h2 : soundN 1 neg' s' g = true) (w : World) :
    Calls Tryz.prog 52 #[numV 1 neg s f, numV 1 neg' s' g] w fun e w' => e = .returned (sumR neg s (manX f 0) neg' s' (manX g 0)) ∧ Below w.heap.size w w' := by
  unfold soundN at h1 h2
  rw [if_neg (by decide)] at h1 h2
  obtain ⟨_, f1, s1, s2⟩ := of_decide_eq_true h1
  obtain ⟨_, g1, t1, t2⟩ := of_decide_eq_true h2
  by_cases c : s < s' ∨ (s = s' ∧ f < g)
  · have hle : s ≤ s' := by omega
    have hw := (sreals_up neg' s' g neg s f g1 (by omega) f1 (by omega) ⟨t1, t2⟩ ⟨s1, s2⟩ hle (fun h => by omega) w).2 (fun h => by omega)
    rw [← sumD_words neg' s' g neg s f g1 (by omega) f1 (by omega) hle (fun h => by omega)] at hw
    have e : sumR neg s (manX f 0) neg' s' (manX g 0) = sumD neg' s' (manX g 0) neg s (manX f 0) := by
      unfold sumR
      by_cases c2 : s < s'
      · rw [if_pos c2]
      · rw [if_neg c2]
        obtain rfl : s = s' := by omega
        have hM : Mant (manX f 0) := by rw [man_frac]; unfold Mant; omega
        have hM' : Mant (manX g 0) := by rw [man_frac]; unfold Mant; omega
        rw [sumD_int neg s _ neg' s _ hM hM' (Int.le_refl _) s 0 0 (by omega) (by omega), sumD_int neg' s _ neg s _ hM' hM (Int.le_refl _) s 0 0 (by omega) (by omega), Int.add_comm]
    rw [e]
    exact hw
  · have hle : s' ≤ s := by omega
    have hw := (sreals_up neg s f neg' s' g f1 (by omega) g1 (by omega) ⟨s1, s2⟩ ⟨t1, t2⟩ hle (fun h => by omega) w).1 (fun h => by omega)
    rw [← sumD_words neg s f neg' s' g f1 (by omega) g1 (by omega) hle (fun h => by omega)] at hw
    have e : sumR neg s (manX f 0) neg' s' (manX g 0) = sumD neg s (manX f 0) neg' s' (manX g 0) := by
      unfold sumR; rw [if_neg (by omega)]
    rw [e]
    exact hw
/-! ### Exact -/
theorem ssum_a1 (k : Int) (neg : Bool) (s : Int) (f : Nat) (k' : Int) (neg' : Bool) (s' : Int) (g : Nat) (hf : f < 2 ^ 64) (hg : g < 2 ^ 64) (h1 : soundN k neg s f = true) (h2 : soundN k' neg' s' g = true) (hk : k = 2) (w : World) :
    Calls Tryz.prog 32 #[numV k neg s f, numV k' neg' s' g] w fun e w' => e = .returned (.tuple #[exV k neg s f 0 false, .nilIface]) ∧ Below w.heap.size w w' := by
  have k1 := rndof_ok k neg s f hf h1
  have k2 := rndof_ok k' neg' s' g hg h2
  have d1 : (k == 2) = true := by rw [hk]; rfl
  clear hk
  unfold numV exV at *
  rw [show ((0 : Nat) : Int) = 0 from rfl] at *
  refine cps fun Q hQ => ?_
  go_enter Tryz.func32, Tryz.ntmps32
  go_wp2_with (first
    | (go_at_call 36; have chk := HB1; go_must (refine (k2 _).mono ?_); rintro e w2 ⟨rfl, hb2⟩; have R2_0 := (hb2.block (w.heap.size) (by first | (simp; done) | (simp; omega) | omega)).trans ((Below.heap_alloc _ _ _ (by first | (simp; done) | (simp; omega) | omega)).trans HR1_0.out); have z2_0 : w.heap.size < w2.heap.size := Nat.lt_of_lt_of_le (by first | (simp; done) | (simp; omega) | omega) hb2.size; have c2_0_0 := rowcell R2_0 0; have c2_0_1 := rowcell R2_0 1; have c2_0_2 := rowcell R2_0 2; have c2_0_3 := rowcell R2_0 3; simp only [List.getElem?_toArray, List.getElem?_cons_zero, List.getElem?_cons_succ] at c2_0_0 c2_0_1 c2_0_2 c2_0_3; have HR2_0 : Hid _ := R2_0; clear R2_0; have R2_1 := (hb2.block (w.heap.size + 1) (by first | (simp; done) | (simp; omega) | omega)).trans ((Below.heap_alloc _ _ _ (by first | (simp; done) | (simp; omega) | omega)).trans HR1_1.out); have z2_1 : w.heap.size + 1 < w2.heap.size := Nat.lt_of_lt_of_le (by first | (simp; done) | (simp; omega) | omega) hb2.size; have c2_1_0 := rowcell R2_1 0; have c2_1_1 := rowcell R2_1 1; have c2_1_2 := rowcell R2_1 2; have c2_1_3 := rowcell R2_1 3; simp only [List.getElem?_toArray, List.getElem?_cons_zero, List.getElem?_cons_succ] at c2_1_0 c2_1_1 c2_1_2 c2_1_3; have HR2_1 : Hid _ := R2_1; clear R2_1; have R2_2 := (hb2.block (w.heap.size + 1 + 1) (by first | (simp; done) | (simp; omega) | omega)).trans ((Below.heap_alloc _ _ _ (by first | (simp; done) | (simp; omega) | omega)).trans HR1_2.out); have z2_2 : w.heap.size + 1 + 1 < w2.heap.size := Nat.lt_of_lt_of_le (by first | (simp; done) | (simp; omega) | omega) hb2.size; have c2_2_0 := rowcell R2_2 0; have c2_2_1 := rowcell R2_2 1; have c2_2_2 := rowcell R2_2 2; have c2_2_3 := rowcell R2_2 3; have c2_2_4 := rowcell R2_2 4; have c2_2_5 := rowcell R2_2 5; simp only [List.getElem?_toArray, List.getElem?_cons_zero, List.getElem?_cons_succ] at c2_2_0 c2_2_1 c2_2_2 c2_2_3 c2_2_4 c2_2_5; have HR2_2 : Hid _ := R2_2; clear R2_2; have R2_3 := (hb2.block (w1.heap.size) (by first | (simp; done) | (simp; omega) | omega)).trans (rownew' _ _ _ _ (by simp)); have z2_3 : w1.heap.size < w2.heap.size := Nat.lt_of_lt_of_le (by first | (simp; done) | (simp; omega) | omega) hb2.size; have c2_3_0 := rowcell R2_3 0; have c2_3_1 := rowcell R2_3 1; have c2_3_2 := rowcell R2_3 2; have c2_3_3 := rowcell R2_3 3; have c2_3_4 := rowcell R2_3 4; have c2_3_5 := rowcell R2_3 5; simp only [List.getElem?_toArray, List.getElem?_cons_zero, List.getElem?_cons_succ] at c2_3_0 c2_3_1 c2_3_2 c2_3_3 c2_3_4 c2_3_5; have HR2_3 : Hid _ := R2_3; clear R2_3; have HB2 : Hid (Below _ _ _) := hb2; clear hb2; have g2 := rowfree HR2_2.out)
    | (go_at_call 36; go_must (refine (k1 _).mono ?_); rintro e w1 ⟨rfl, hb1⟩; have R1_0 := (hb1.block (w.heap.size) (by first | (simp; done) | (simp; omega) | omega)).trans ((Below.heap_alloc _ _ _ (by first | (simp; done) | (simp; omega) | omega)).trans ((Below.heap_alloc _ _ _ (by first | (simp; done) | (simp; omega) | omega)).trans (rownew' _ _ _ _ (by simp)))); have z1_0 : w.heap.size < w1.heap.size := Nat.lt_of_lt_of_le (by first | (simp; done) | (simp; omega) | omega) hb1.size; have HR1_0 : Hid _ := R1_0; clear R1_0; have R1_1 := (hb1.block (w.heap.size + 1) (by first | (simp; done) | (simp; omega) | omega)).trans ((Below.heap_alloc _ _ _ (by first | (simp; done) | (simp; omega) | omega)).trans (rownew' _ _ _ _ (by simp))); have z1_1 : w.heap.size + 1 < w1.heap.size := Nat.lt_of_lt_of_le (by first | (simp; done) | (simp; omega) | omega) hb1.size; have c1_1_0 := rowcell R1_1 0; have c1_1_1 := rowcell R1_1 1; have c1_1_2 := rowcell R1_1 2; have c1_1_3 := rowcell R1_1 3; simp only [List.getElem?_toArray, List.getElem?_cons_zero, List.getElem?_cons_succ] at c1_1_0 c1_1_1 c1_1_2 c1_1_3; have HR1_1 : Hid _ := R1_1; clear R1_1; have R1_2 := (hb1.block (w.heap.size + 1 + 1) (by first | (simp; done) | (simp; omega) | omega)).trans (rownew' _ _ _ _ (by simp)); have z1_2 : w.heap.size + 1 + 1 < w1.heap.size := Nat.lt_of_lt_of_le (by first | (simp; done) | (simp; omega) | omega) hb1.size; have c1_2_0 := rowcell R1_2 0; have c1_2_1 := rowcell R1_2 1; have c1_2_2 := rowcell R1_2 2; have c1_2_3 := rowcell R1_2 3; have c1_2_4 := rowcell R1_2 4; have c1_2_5 := rowcell R1_2 5; simp only [List.getElem?_toArray, List.getElem?_cons_zero, List.getElem?_cons_succ] at c1_2_0 c1_2_1 c1_2_2 c1_2_3 c1_2_4 c1_2_5; have HR1_2 : Hid _ := R1_2; clear R1_2; have HB1 : Hid (Below _ _ _) := hb1; clear hb1; have f2 := rowfree HR1_2.out))
  refine bodyPost_ret (v := .tuple #[.agg #[.int .i64 k, .bool neg, .int .i64 s, .int .u64 f, .int .u64 0, .bool false], .nilIface]) (by simp [results, Tryz.results32, go_sem, c2_2_0, c2_2_1, c2_2_2, c2_2_3, c2_2_4, c2_2_5, g2, z2_2]; done) rfl (hQ.out _ _ ⟨rfl, ?_⟩)
  first | exact cmore (cset6 (cthen (cmore (cthen (cmore (cmore (cmore (Below.refl _ _) _) _) _) HB1.out) _) HB2.out) (by omega)) _ | exact cset6 (cmore (cthen (cmore (cthen (cmore (cmore (cmore (Below.refl _ _) _) _) _) HB1.out) _) HB2.out) _) (by omega)
theorem ssum_a2 (k : Int) (neg : Bool) (s : Int) (f : Nat) (k' : Int) (neg' : Bool) (s' : Int) (g : Nat) (hf : f < 2 ^ 64) (hg : g < 2 ^ 64) (h1 : soundN k neg s f = true) (h2 : soundN k' neg' s' g = true) (hk : k ≠ 2) (hk' : k' = 0) (w : World) :
    Calls Tryz.prog 32 #[numV k neg s f, numV k' neg' s' g] w fun e w' => e = .returned (.tuple #[exV k neg s f 0 false, .nilIface]) ∧ Below w.heap.size w w' := by
  have k1 := rndof_ok k neg s f hf h1
  have k2 := rndof_ok k' neg' s' g hg h2
  have d1 : (k == 2) = false := beq_eq_false_iff_ne.2 hk
  have d2 : (k' == 0) = true := by rw [hk']; rfl
  clear hk hk'
  unfold numV exV at *
  rw [show ((0 : Nat) : Int) = 0 from rfl] at *
  refine cps fun Q hQ => ?_
  go_enter Tryz.func32, Tryz.ntmps32
  go_wp2_with (first
    | (go_at_call 36; have chk := HB1; go_must (refine (k2 _).mono ?_); rintro e w2 ⟨rfl, hb2⟩; have R2_0 := (hb2.block (w.heap.size) (by first | (simp; done) | (simp; omega) | omega)).trans ((Below.heap_alloc _ _ _ (by first | (simp; done) | (simp; omega) | omega)).trans HR1_0.out); have z2_0 : w.heap.size < w2.heap.size := Nat.lt_of_lt_of_le (by first | (simp; done) | (simp; omega) | omega) hb2.size; have c2_0_0 := rowcell R2_0 0; have c2_0_1 := rowcell R2_0 1; have c2_0_2 := rowcell R2_0 2; have c2_0_3 := rowcell R2_0 3; simp only [List.getElem?_toArray, List.getElem?_cons_zero, List.getElem?_cons_succ] at c2_0_0 c2_0_1 c2_0_2 c2_0_3; have HR2_0 : Hid _ := R2_0; clear R2_0; have R2_1 := (hb2.block (w.heap.size + 1) (by first | (simp; done) | (simp; omega) | omega)).trans ((Below.heap_alloc _ _ _ (by first | (simp; done) | (simp; omega) | omega)).trans HR1_1.out); have z2_1 : w.heap.size + 1 < w2.heap.size := Nat.lt_of_lt_of_le (by first | (simp; done) | (simp; omega) | omega) hb2.size; have c2_1_0 := rowcell R2_1 0; have c2_1_1 := rowcell R2_1 1; have c2_1_2 := rowcell R2_1 2; have c2_1_3 := rowcell R2_1 3; simp only [List.getElem?_toArray, List.getElem?_cons_zero, List.getElem?_cons_succ] at c2_1_0 c2_1_1 c2_1_2 c2_1_3; have HR2_1 : Hid _ := R2_1; clear R2_1; have R2_2 := (hb2.block (w.heap.size + 1 + 1) (by first | (simp; done) | (simp; omega) | omega)).trans ((Below.heap_alloc _ _ _ (by first | (simp; done) | (simp; omega) | omega)).trans HR1_2.out); have z2_2 : w.heap.size + 1 + 1 < w2.heap.size := Nat.lt_of_lt_of_le (by first | (simp; done) | (simp; omega) | omega) hb2.size; have c2_2_0 := rowcell R2_2 0; have c2_2_1 := rowcell R2_2 1; have c2_2_2 := rowcell R2_2 2; have c2_2_3 := rowcell R2_2 3; have c2_2_4 := rowcell R2_2 4; have c2_2_5 := rowcell R2_2 5; simp only [List.getElem?_toArray, List.getElem?_cons_zero, List.getElem?_cons_succ] at c2_2_0 c2_2_1 c2_2_2 c2_2_3 c2_2_4 c2_2_5; have HR2_2 : Hid _ := R2_2; clear R2_2; have R2_3 := (hb2.block (w1.heap.size) (by first | (simp; done) | (simp; omega) | omega)).trans (rownew' _ _ _ _ (by simp)); have z2_3 : w1.heap.size < w2.heap.size := Nat.lt_of_lt_of_le (by first | (simp; done) | (simp; omega) | omega) hb2.size; have c2_3_0 := rowcell R2_3 0; have c2_3_1 := rowcell R2_3 1; have c2_3_2 := rowcell R2_3 2; have c2_3_3 := rowcell R2_3 3; have c2_3_4 := rowcell R2_3 4; have c2_3_5 := rowcell R2_3 5; simp only [List.getElem?_toArray, List.getElem?_cons_zero, List.getElem?_cons_succ] at c2_3_0 c2_3_1 c2_3_2 c2_3_3 c2_3_4 c2_3_5; have HR2_3 : Hid _ := R2_3; clear R2_3; have HB2 : Hid (Below _ _ _) := hb2; clear hb2; have g2 := rowfree HR2_2.out)
    | (go_at_call 36; go_must (refine (k1 _).mono ?_); rintro e w1 ⟨rfl, hb1⟩; have R1_0 := (hb1.block (w.heap.size) (by first | (simp; done) | (simp; omega) | omega)).trans ((Below.heap_alloc _ _ _ (by first | (simp; done) | (simp; omega) | omega)).trans ((Below.heap_alloc _ _ _ (by first | (simp; done) | (simp; omega) | omega)).trans (rownew' _ _ _ _ (by simp)))); have z1_0 : w.heap.size < w1.heap.size := Nat.lt_of_lt_of_le (by first | (simp; done) | (simp; omega) | omega) hb1.size; have HR1_0 : Hid _ := R1_0; clear R1_0; have R1_1 := (hb1.block (w.heap.size + 1) (by first | (simp; done) | (simp; omega) | omega)).trans ((Below.heap_alloc _ _ _ (by first | (simp; done) | (simp; omega) | omega)).trans (rownew' _ _ _ _ (by simp))); have z1_1 : w.heap.size + 1 < w1.heap.size := Nat.lt_of_lt_of_le (by first | (simp; done) | (simp; omega) | omega) hb1.size; have c1_1_0 := rowcell R1_1 0; have c1_1_1 := rowcell R1_1 1; have c1_1_2 := rowcell R1_1 2; have c1_1_3 := rowcell R1_1 3; simp only [List.getElem?_toArray, List.getElem?_cons_zero, List.getElem?_cons_succ] at c1_1_0 c1_1_1 c1_1_2 c1_1_3; have HR1_1 : Hid _ := R1_1; clear R1_1; have R1_2 := (hb1.block (w.heap.size + 1 + 1) (by first | (simp; done) | (simp; omega) | omega)).trans (rownew' _ _ _ _ (by simp)); have z1_2 : w.heap.size + 1 + 1 < w1.heap.size := Nat.lt_of_lt_of_le (by first | (simp; done) | (simp; omega) | omega) hb1.size; have c1_2_0 := rowcell R1_2 0; have c1_2_1 := rowcell R1_2 1; have c1_2_2 := rowcell R1_2 2; have c1_2_3 := rowcell R1_2 3; have c1_2_4 := rowcell R1_2 4; have c1_2_5 := rowcell R1_2 5; simp only [List.getElem?_toArray, List.getElem?_cons_zero, List.getElem?_cons_succ] at c1_2_0 c1_2_1 c1_2_2 c1_2_3 c1_2_4 c1_2_5; have HR1_2 : Hid _ := R1_2; clear R1_2; have HB1 : Hid (Below _ _ _) := hb1; clear hb1; have f2 := rowfree HR1_2.out))
  refine bodyPost_ret (v := .tuple #[.agg #[.int .i64 k, .bool neg, .int .i64 s, .int .u64 f, .int .u64 0, .bool false], .nilIface]) (by simp [results, Tryz.results32, go_sem, c2_2_0, c2_2_1, c2_2_2, c2_2_3, c2_2_4, c2_2_5, g2, z2_2]; done) rfl (hQ.out _ _ ⟨rfl, ?_⟩)
  first | exact cmore (cset6 (cthen (cmore (cthen (cmore (cmore (cmore (Below.refl _ _) _) _) _) HB1.out) _) HB2.out) (by omega)) _ | exact cset6 (cmore (cthen (cmore (cthen (cmore (cmore (cmore (Below.refl _ _) _) _) _) HB1.out) _) HB2.out) _) (by omega)
theorem ssum_b1 (k : Int) (neg : Bool) (s : Int) (f : Nat) (k' : Int) (neg' : Bool) (s' : Int) (g : Nat) (hf : f < 2 ^ 64) (hg : g < 2 ^ 64) (h1 : soundN k neg s f = true) (h2 : soundN k' neg' s' g = true) (hk : k ≠ 2) (hk' : k' ≠ 0) (hk2 : k' = 2) (w : World) :
    Calls Tryz.prog 32 #[numV k neg s f, numV k' neg' s' g] w fun e w' => e = .returned (.tuple #[exV k' neg' s' g 0 false, .nilIface]) ∧ Below w.heap.size w w' := by
  have k1 := rndof_ok k neg s f hf h1
  have k2 := rndof_ok k' neg' s' g hg h2
  have d1 : (k == 2) = false := beq_eq_false_iff_ne.2 hk
  have d2 : (k' == 0) = false := beq_eq_false_iff_ne.2 hk'
  have d3 : (k' == 2) = true := by rw [hk2]; rfl
  clear hk hk' hk2
  unfold numV exV at *
  rw [show ((0 : Nat) : Int) = 0 from rfl] at *
  refine cps fun Q hQ => ?_
  go_enter Tryz.func32, Tryz.ntmps32
  go_wp2_with (first
    | (go_at_call 36; have chk := HB1; go_must (refine (k2 _).mono ?_); rintro e w2 ⟨rfl, hb2⟩; have R2_0 := (hb2.block (w.heap.size) (by first | (simp; done) | (simp; omega) | omega)).trans ((Below.heap_alloc _ _ _ (by first | (simp; done) | (simp; omega) | omega)).trans HR1_0.out); have z2_0 : w.heap.size < w2.heap.size := Nat.lt_of_lt_of_le (by first | (simp; done) | (simp; omega) | omega) hb2.size; have c2_0_0 := rowcell R2_0 0; have c2_0_1 := rowcell R2_0 1; have c2_0_2 := rowcell R2_0 2; have c2_0_3 := rowcell R2_0 3; simp only [List.getElem?_toArray, List.getElem?_cons_zero, List.getElem?_cons_succ] at c2_0_0 c2_0_1 c2_0_2 c2_0_3; have HR2_0 : Hid _ := R2_0; clear R2_0; have R2_1 := (hb2.block (w.heap.size + 1) (by first | (simp; done) | (simp; omega) | omega)).trans ((Below.heap_alloc _ _ _ (by first | (simp; done) | (simp; omega) | omega)).trans HR1_1.out); have z2_1 : w.heap.size + 1 < w2.heap.size := Nat.lt_of_lt_of_le (by first | (simp; done) | (simp; omega) | omega) hb2.size; have c2_1_0 := rowcell R2_1 0; have c2_1_1 := rowcell R2_1 1; have c2_1_2 := rowcell R2_1 2; have c2_1_3 := rowcell R2_1 3; simp only [List.getElem?_toArray, List.getElem?_cons_zero, List.getElem?_cons_succ] at c2_1_0 c2_1_1 c2_1_2 c2_1_3; have HR2_1 : Hid _ := R2_1; clear R2_1; have R2_2 := (hb2.block (w.heap.size + 1 + 1) (by first | (simp; done) | (simp; omega) | omega)).trans ((Below.heap_alloc _ _ _ (by first | (simp; done) | (simp; omega) | omega)).trans HR1_2.out); have z2_2 : w.heap.size + 1 + 1 < w2.heap.size := Nat.lt_of_lt_of_le (by first | (simp; done) | (simp; omega) | omega) hb2.size; have c2_2_0 := rowcell R2_2 0; have c2_2_1 := rowcell R2_2 1; have c2_2_2 := rowcell R2_2 2; have c2_2_3 := rowcell R2_2 3; have c2_2_4 := rowcell R2_2 4; have c2_2_5 := rowcell R2_2 5; simp only [List.getElem?_toArray, List.getElem?_cons_zero, List.getElem?_cons_succ] at c2_2_0 c2_2_1 c2_2_2 c2_2_3 c2_2_4 c2_2_5; have HR2_2 : Hid _ := R2_2; clear R2_2; have R2_3 := (hb2.block (w1.heap.size) (by first | (simp; done) | (simp; omega) | omega)).trans (rownew' _ _ _ _ (by simp)); have z2_3 : w1.heap.size < w2.heap.size := Nat.lt_of_lt_of_le (by first | (simp; done) | (simp; omega) | omega) hb2.size; have c2_3_0 := rowcell R2_3 0; have c2_3_1 := rowcell R2_3 1; have c2_3_2 := rowcell R2_3 2; have c2_3_3 := rowcell R2_3 3; have c2_3_4 := rowcell R2_3 4; have c2_3_5 := rowcell R2_3 5; simp only [List.getElem?_toArray, List.getElem?_cons_zero, List.getElem?_cons_succ] at c2_3_0 c2_3_1 c2_3_2 c2_3_3 c2_3_4 c2_3_5; have HR2_3 : Hid _ := R2_3; clear R2_3; have HB2 : Hid (Below _ _ _) := hb2; clear hb2; have g2 := rowfree HR2_2.out)
    | (go_at_call 36; go_must (refine (k1 _).mono ?_); rintro e w1 ⟨rfl, hb1⟩; have R1_0 := (hb1.block (w.heap.size) (by first | (simp; done) | (simp; omega) | omega)).trans ((Below.heap_alloc _ _ _ (by first | (simp; done) | (simp; omega) | omega)).trans ((Below.heap_alloc _ _ _ (by first | (simp; done) | (simp; omega) | omega)).trans (rownew' _ _ _ _ (by simp)))); have z1_0 : w.heap.size < w1.heap.size := Nat.lt_of_lt_of_le (by first | (simp; done) | (simp; omega) | omega) hb1.size; have HR1_0 : Hid _ := R1_0; clear R1_0; have R1_1 := (hb1.block (w.heap.size + 1) (by first | (simp; done) | (simp; omega) | omega)).trans ((Below.heap_alloc _ _ _ (by first | (simp; done) | (simp; omega) | omega)).trans (rownew' _ _ _ _ (by simp))); have z1_1 : w.heap.size + 1 < w1.heap.size := Nat.lt_of_lt_of_le (by first | (simp; done) | (simp; omega) | omega) hb1.size; have c1_1_0 := rowcell R1_1 0; have c1_1_1 := rowcell R1_1 1; have c1_1_2 := rowcell R1_1 2; have c1_1_3 := rowcell R1_1 3; simp only [List.getElem?_toArray, List.getElem?_cons_zero, List.getElem?_cons_succ] at c1_1_0 c1_1_1 c1_1_2 c1_1_3; have HR1_1 : Hid _ := R1_1; clear R1_1; have R1_2 := (hb1.block (w.heap.size + 1 + 1) (by first | (simp; done) | (simp; omega) | omega)).trans (rownew' _ _ _ _ (by simp)); have z1_2 : w.heap.size + 1 + 1 < w1.heap.size := Nat.lt_of_lt_of_le (by first | (simp; done) | (simp; omega) | omega) hb1.size; have c1_2_0 := rowcell R1_2 0; have c1_2_1 := rowcell R1_2 1; have c1_2_2 := rowcell R1_2 2; have c1_2_3 := rowcell R1_2 3; have c1_2_4 := rowcell R1_2 4; have c1_2_5 := rowcell R1_2 5; simp only [List.getElem?_toArray, List.getElem?_cons_zero, List.getElem?_cons_succ] at c1_2_0 c1_2_1 c1_2_2 c1_2_3 c1_2_4 c1_2_5; have HR1_2 : Hid _ := R1_2; clear R1_2; have HB1 : Hid (Below _ _ _) := hb1; clear hb1; have f2 := rowfree HR1_2.out))
  refine bodyPost_ret (v := .tuple #[.agg #[.int .i64 k', .bool neg', .int .i64 s', .int .u64 g, .int .u64 0, .bool false], .nilIface]) (by simp [results, Tryz.results32, go_sem, c2_2_0, c2_2_1, c2_2_2, c2_2_3, c2_2_4, c2_2_5, g2, z2_2]; done) rfl (hQ.out _ _ ⟨rfl, ?_⟩)
  first | exact cmore (cset6 (cthen (cmore (cthen (cmore (cmore (cmore (Below.refl _ _) _) _) _) HB1.out) _) HB2.out) (by omega)) _ | exact cset6 (cmore (cthen (cmore (cthen (cmore (cmore (cmore (Below.refl _ _) _) _) _) HB1.out) _) HB2.out) _) (by omega)
theorem ssum_b2 (k : Int) (neg : Bool) (s : Int) (f : Nat) (k' : Int) (neg' : Bool) (s' : Int) (g : Nat) (hf : f < 2 ^ 64) (hg : g < 2 ^ 64) (h1 : soundN k neg s f = true) (h2 : soundN k' neg' s' g = true) (hk : k ≠ 2) (hk' : k' ≠ 0) (hk2 : k' ≠ 2) (hk0 : k = 0) (w : World) :
    Calls Tryz.prog 32 #[numV k neg s f, numV k' neg' s' g] w fun e w' => e = .returned (.tuple #[exV k' neg' s' g 0 false, .nilIface]) ∧ Below w.heap.size w w' := by
  have k1 := rndof_ok k neg s f hf h1
  have k2 := rndof_ok k' neg' s' g hg h2
  have d1 : (k == 2) = false := beq_eq_false_iff_ne.2 hk
  have d2 : (k' == 0) = false := beq_eq_false_iff_ne.2 hk'
  have d3 : (k' == 2) = false := beq_eq_false_iff_ne.2 hk2
  have d4 : (k == 0) = true := by rw [hk0]; rfl
  clear hk hk' hk2 hk0
  unfold numV exV at *
  rw [show ((0 : Nat) : Int) = 0 from rfl] at *
  refine cps fun Q hQ => ?_
  go_enter Tryz.func32, Tryz.ntmps32
  go_wp2_with (first
    | (go_at_call 36; have chk := HB1; go_must (refine (k2 _).mono ?_); rintro e w2 ⟨rfl, hb2⟩; have R2_0 := (hb2.block (w.heap.size) (by first | (simp; done) | (simp; omega) | omega)).trans ((Below.heap_alloc _ _ _ (by first | (simp; done) | (simp; omega) | omega)).trans HR1_0.out); have z2_0 : w.heap.size < w2.heap.size := Nat.lt_of_lt_of_le (by first | (simp; done) | (simp; omega) | omega) hb2.size; have c2_0_0 := rowcell R2_0 0; have c2_0_1 := rowcell R2_0 1; have c2_0_2 := rowcell R2_0 2; have c2_0_3 := rowcell R2_0 3; simp only [List.getElem?_toArray, List.getElem?_cons_zero, List.getElem?_cons_succ] at c2_0_0 c2_0_1 c2_0_2 c2_0_3; have HR2_0 : Hid _ := R2_0; clear R2_0; have R2_1 := (hb2.block (w.heap.size + 1) (by first | (simp; done) | (simp; omega) | omega)).trans ((Below.heap_alloc _ _ _ (by first | (simp; done) | (simp; omega) | omega)).trans HR1_1.out); have z2_1 : w.heap.size + 1 < w2.heap.size := Nat.lt_of_lt_of_le (by first | (simp; done) | (simp; omega) | omega) hb2.size; have c2_1_0 := rowcell R2_1 0; have c2_1_1 := rowcell R2_1 1; have c2_1_2 := rowcell R2_1 2; have c2_1_3 := rowcell R2_1 3; simp only [List.getElem?_toArray, List.getElem?_cons_zero, List.getElem?_cons_succ] at c2_1_0 c2_1_1 c2_1_2 c2_1_3; have HR2_1 : Hid _ := R2_1; clear R2_1; have R2_2 := (hb2.block (w.heap.size + 1 + 1) (by first | (simp; done) | (simp; omega) | omega)).trans ((Below.heap_alloc _ _ _ (by first | (simp; done) | (simp; omega) | omega)).trans HR1_2.out); have z2_2 : w.heap.size + 1 + 1 < w2.heap.size := Nat.lt_of_lt_of_le (by first | (simp; done) | (simp; omega) | omega) hb2.size; have c2_2_0 := rowcell R2_2 0; have c2_2_1 := rowcell R2_2 1; have c2_2_2 := rowcell R2_2 2; have c2_2_3 := rowcell R2_2 3; have c2_2_4 := rowcell R2_2 4; have c2_2_5 := rowcell R2_2 5; simp only [List.getElem?_toArray, List.getElem?_cons_zero, List.getElem?_cons_succ] at c2_2_0 c2_2_1 c2_2_2 c2_2_3 c2_2_4 c2_2_5; have HR2_2 : Hid _ := R2_2; clear R2_2; have R2_3 := (hb2.block (w1.heap.size) (by first | (simp; done) | (simp; omega) | omega)).trans (rownew' _ _ _ _ (by simp)); have z2_3 : w1.heap.size < w2.heap.size := Nat.lt_of_lt_of_le (by first | (simp; done) | (simp; omega) | omega) hb2.size; have c2_3_0 := rowcell R2_3 0; have c2_3_1 := rowcell R2_3 1; have c2_3_2 := rowcell R2_3 2; have c2_3_3 := rowcell R2_3 3; have c2_3_4 := rowcell R2_3 4; have c2_3_5 := rowcell R2_3 5; simp only [List.getElem?_toArray, List.getElem?_cons_zero, List.getElem?_cons_succ] at c2_3_0 c2_3_1 c2_3_2 c2_3_3 c2_3_4 c2_3_5; have HR2_3 : Hid _ := R2_3; clear R2_3; have HB2 : Hid (Below _ _ _) := hb2; clear hb2; have g2 := rowfree HR2_2.out)
    | (go_at_call 36; go_must (refine (k1 _).mono ?_); rintro e w1 ⟨rfl, hb1⟩; have R1_0 := (hb1.block (w.heap.size) (by first | (simp; done) | (simp; omega) | omega)).trans ((Below.heap_alloc _ _ _ (by first | (simp; done) | (simp; omega) | omega)).trans ((Below.heap_alloc _ _ _ (by first | (simp; done) | (simp; omega) | omega)).trans (rownew' _ _ _ _ (by simp)))); have z1_0 : w.heap.size < w1.heap.size := Nat.lt_of_lt_of_le (by first | (simp; done) | (simp; omega) | omega) hb1.size; have HR1_0 : Hid _ := R1_0; clear R1_0; have R1_1 := (hb1.block (w.heap.size + 1) (by first | (simp; done) | (simp; omega) | omega)).trans ((Below.heap_alloc _ _ _ (by first | (simp; done) | (simp; omega) | omega)).trans (rownew' _ _ _ _ (by simp))); have z1_1 : w.heap.size + 1 < w1.heap.size := Nat.lt_of_lt_of_le (by first | (simp; done) | (simp; omega) | omega) hb1.size; have c1_1_0 := rowcell R1_1 0; have c1_1_1 := rowcell R1_1 1; have c1_1_2 := rowcell R1_1 2; have c1_1_3 := rowcell R1_1 3; simp only [List.getElem?_toArray, List.getElem?_cons_zero, List.getElem?_cons_succ] at c1_1_0 c1_1_1 c1_1_2 c1_1_3; have HR1_1 : Hid _ := R1_1; clear R1_1; have R1_2 := (hb1.block (w.heap.size + 1 + 1) (by first | (simp; done) | (simp; omega) | omega)).trans (rownew' _ _ _ _ (by simp)); have z1_2 : w.heap.size + 1 + 1 < w1.heap.size := Nat.lt_of_lt_of_le (by first | (simp; done) | (simp; omega) | omega) hb1.size; have c1_2_0 := rowcell R1_2 0; have c1_2_1 := rowcell R1_2 1; have c1_2_2 := rowcell R1_2 2; have c1_2_3 := rowcell R1_2 3; have c1_2_4 := rowcell R1_2 4; have c1_2_5 := rowcell R1_2 5; simp only [List.getElem?_toArray, List.getElem?_cons_zero, List.getElem?_cons_succ] at c1_2_0 c1_2_1 c1_2_2 c1_2_3 c1_2_4 c1_2_5; have HR1_2 : Hid _ := R1_2; clear R1_2; have HB1 : Hid (Below _ _ _) := hb1; clear hb1; have f2 := rowfree HR1_2.out))
  refine bodyPost_ret (v := .tuple #[.agg #[.int .i64 k', .bool neg', .int .i64 s', .int .u64 g, .int .u64 0, .bool false], .nilIface]) (by simp [results, Tryz.results32, go_sem, c2_2_0, c2_2_1, c2_2_2, c2_2_3, c2_2_4, c2_2_5, g2, z2_2]; done) rfl (hQ.out _ _ ⟨rfl, ?_⟩)
  first | exact cmore (cset6 (cthen (cmore (cthen (cmore (cmore (cmore (Below.refl _ _) _) _) _) HB1.out) _) HB2.out) (by omega)) _ | exact cset6 (cmore (cthen (cmore (cthen (cmore (cmore (cmore (Below.refl _ _) _) _) _) HB1.out) _) HB2.out) _) (by omega)
theorem ssum_r (k : Int) (neg : Bool) (s : Int) (f : Nat) (k' : Int) (neg' : Bool) (s' : Int) (g : Nat) (hf : f < 2 ^ 64) (hg : g < 2 ^ 64) (h1 : soundN k neg s f = true) (h2 : soundN k' neg' s' g = true) (hk : k ≠ 2) (hk' : k' ≠ 0) (hk2 : k' ≠ 2) (hk0 : k ≠ 0) (K : Int) (B : Bool) (S : Int) (H L : Nat) (R : Bool) (k3 : ∀ w, Calls Tryz.prog 52 #[numV k neg s f, numV k' neg' s' g] w fun e w' => e = .returned (exV K B S H L R) ∧ Below w.heap.size w w') (w : World) :
    Calls Tryz.prog 32 #[numV k neg s f, numV k' neg' s' g] w fun e w' => e = .returned (.tuple #[exV K B S H L R, .nilIface]) ∧ Below w.heap.size w w' := by
  have k1 := rndof_ok k neg s f hf h1
  have k2 := rndof_ok k' neg' s' g hg h2
  have d1 : (k == 2) = false := beq_eq_false_iff_ne.2 hk
  have d2 : (k' == 0) = false := beq_eq_false_iff_ne.2 hk'
  have d3 : (k' == 2) = false := beq_eq_false_iff_ne.2 hk2
  have d4 : (k == 0) = false := beq_eq_false_iff_ne.2 hk0
  clear hk hk' hk2 hk0
  unfold numV exV at *
  rw [show ((0 : Nat) : Int) = 0 from rfl] at *
  refine cps fun Q hQ => ?_
  go_enter Tryz.func32, Tryz.ntmps32
  go_wp2_with (first
    | (go_at_call 36; have chk := HB1; go_must (refine (k2 _).mono ?_); rintro e w2 ⟨rfl, hb2⟩; have R2_0 := (hb2.block (w.heap.size) (by first | (simp; done) | (simp; omega) | omega)).trans ((Below.heap_alloc _ _ _ (by first | (simp; done) | (simp; omega) | omega)).trans HR1_0.out); have z2_0 : w.heap.size < w2.heap.size := Nat.lt_of_lt_of_le (by first | (simp; done) | (simp; omega) | omega) hb2.size; have c2_0_0 := rowcell R2_0 0; have c2_0_1 := rowcell R2_0 1; have c2_0_2 := rowcell R2_0 2; have c2_0_3 := rowcell R2_0 3; simp only [List.getElem?_toArray, List.getElem?_cons_zero, List.getElem?_cons_succ] at c2_0_0 c2_0_1 c2_0_2 c2_0_3; have HR2_0 : Hid _ := R2_0; clear R2_0; have R2_1 := (hb2.block (w.heap.size + 1) (by first | (simp; done) | (simp; omega) | omega)).trans ((Below.heap_alloc _ _ _ (by first | (simp; done) | (simp; omega) | omega)).trans HR1_1.out); have z2_1 : w.heap.size + 1 < w2.heap.size := Nat.lt_of_lt_of_le (by first | (simp; done) | (simp; omega) | omega) hb2.size; have c2_1_0 := rowcell R2_1 0; have c2_1_1 := rowcell R2_1 1; have c2_1_2 := rowcell R2_1 2; have c2_1_3 := rowcell R2_1 3; simp only [List.getElem?_toArray, List.getElem?_cons_zero, List.getElem?_cons_succ] at c2_1_0 c2_1_1 c2_1_2 c2_1_3; have HR2_1 : Hid _ := R2_1; clear R2_1; have R2_2 := (hb2.block (w.heap.size + 1 + 1) (by first | (simp; done) | (simp; omega) | omega)).trans ((Below.heap_alloc _ _ _ (by first | (simp; done) | (simp; omega) | omega)).trans HR1_2.out); have z2_2 : w.heap.size + 1 + 1 < w2.heap.size := Nat.lt_of_lt_of_le (by first | (simp; done) | (simp; omega) | omega) hb2.size; have c2_2_0 := rowcell R2_2 0; have c2_2_1 := rowcell R2_2 1; have c2_2_2 := rowcell R2_2 2; have c2_2_3 := rowcell R2_2 3; have c2_2_4 := rowcell R2_2 4; have c2_2_5 := rowcell R2_2 5; simp only [List.getElem?_toArray, List.getElem?_cons_zero, List.getElem?_cons_succ] at c2_2_0 c2_2_1 c2_2_2 c2_2_3 c2_2_4 c2_2_5; have HR2_2 : Hid _ := R2_2; clear R2_2; have R2_3 := (hb2.block (w1.heap.size) (by first | (simp; done) | (simp; omega) | omega)).trans (rownew' _ _ _ _ (by simp)); have z2_3 : w1.heap.size < w2.heap.size := Nat.lt_of_lt_of_le (by first | (simp; done) | (simp; omega) | omega) hb2.size; have c2_3_0 := rowcell R2_3 0; have c2_3_1 := rowcell R2_3 1; have c2_3_2 := rowcell R2_3 2; have c2_3_3 := rowcell R2_3 3; have c2_3_4 := rowcell R2_3 4; have c2_3_5 := rowcell R2_3 5; simp only [List.getElem?_toArray, List.getElem?_cons_zero, List.getElem?_cons_succ] at c2_3_0 c2_3_1 c2_3_2 c2_3_3 c2_3_4 c2_3_5; have HR2_3 : Hid _ := R2_3; clear R2_3; have HB2 : Hid (Below _ _ _) := hb2; clear hb2; have g2 := rowfree HR2_2.out)
    | (go_at_call 36; go_must (refine (k1 _).mono ?_); rintro e w1 ⟨rfl, hb1⟩; have R1_0 := (hb1.block (w.heap.size) (by first | (simp; done) | (simp; omega) | omega)).trans ((Below.heap_alloc _ _ _ (by first | (simp; done) | (simp; omega) | omega)).trans ((Below.heap_alloc _ _ _ (by first | (simp; done) | (simp; omega) | omega)).trans (rownew' _ _ _ _ (by simp)))); have z1_0 : w.heap.size < w1.heap.size := Nat.lt_of_lt_of_le (by first | (simp; done) | (simp; omega) | omega) hb1.size; have HR1_0 : Hid _ := R1_0; clear R1_0; have R1_1 := (hb1.block (w.heap.size + 1) (by first | (simp; done) | (simp; omega) | omega)).trans ((Below.heap_alloc _ _ _ (by first | (simp; done) | (simp; omega) | omega)).trans (rownew' _ _ _ _ (by simp))); have z1_1 : w.heap.size + 1 < w1.heap.size := Nat.lt_of_lt_of_le (by first | (simp; done) | (simp; omega) | omega) hb1.size; have c1_1_0 := rowcell R1_1 0; have c1_1_1 := rowcell R1_1 1; have c1_1_2 := rowcell R1_1 2; have c1_1_3 := rowcell R1_1 3; simp only [List.getElem?_toArray, List.getElem?_cons_zero, List.getElem?_cons_succ] at c1_1_0 c1_1_1 c1_1_2 c1_1_3; have HR1_1 : Hid _ := R1_1; clear R1_1; have R1_2 := (hb1.block (w.heap.size + 1 + 1) (by first | (simp; done) | (simp; omega) | omega)).trans (rownew' _ _ _ _ (by simp)); have z1_2 : w.heap.size + 1 + 1 < w1.heap.size := Nat.lt_of_lt_of_le (by first | (simp; done) | (simp; omega) | omega) hb1.size; have c1_2_0 := rowcell R1_2 0; have c1_2_1 := rowcell R1_2 1; have c1_2_2 := rowcell R1_2 2; have c1_2_3 := rowcell R1_2 3; have c1_2_4 := rowcell R1_2 4; have c1_2_5 := rowcell R1_2 5; simp only [List.getElem?_toArray, List.getElem?_cons_zero, List.getElem?_cons_succ] at c1_2_0 c1_2_1 c1_2_2 c1_2_3 c1_2_4 c1_2_5; have HR1_2 : Hid _ := R1_2; clear R1_2; have HB1 : Hid (Below _ _ _) := hb1; clear hb1; have f2 := rowfree HR1_2.out)
    | (go_at_call 52; go_must (refine (k3 _).mono ?_); rintro e w3 ⟨rfl, hb3⟩; have R3_0 := (hb3.block (w.heap.size) (by first | (simp; done) | (simp; omega) | omega)).trans ((Below.heap_alloc _ _ _ (by first | (simp; done) | (simp; omega) | omega)).trans HR2_0.out); have z3_0 : w.heap.size < w3.heap.size := Nat.lt_of_lt_of_le (by first | (simp; done) | (simp; omega) | omega) hb3.size; have HR3_0 : Hid _ := R3_0; clear R3_0; have R3_1 := (hb3.block (w.heap.size + 1) (by first | (simp; done) | (simp; omega) | omega)).trans ((Below.heap_alloc _ _ _ (by first | (simp; done) | (simp; omega) | omega)).trans HR2_1.out); have z3_1 : w.heap.size + 1 < w3.heap.size := Nat.lt_of_lt_of_le (by first | (simp; done) | (simp; omega) | omega) hb3.size; have HR3_1 : Hid _ := R3_1; clear R3_1; have R3_2 := (hb3.block (w.heap.size + 1 + 1) (by first | (simp; done) | (simp; omega) | omega)).trans ((Below.heap_alloc _ _ _ (by first | (simp; done) | (simp; omega) | omega)).trans HR2_2.out); have z3_2 : w.heap.size + 1 + 1 < w3.heap.size := Nat.lt_of_lt_of_le (by first | (simp; done) | (simp; omega) | omega) hb3.size; have c3_2_0 := rowcell R3_2 0; have c3_2_1 := rowcell R3_2 1; have c3_2_2 := rowcell R3_2 2; have c3_2_3 := rowcell R3_2 3; have c3_2_4 := rowcell R3_2 4; have c3_2_5 := rowcell R3_2 5; simp only [List.getElem?_toArray, List.getElem?_cons_zero, List.getElem?_cons_succ] at c3_2_0 c3_2_1 c3_2_2 c3_2_3 c3_2_4 c3_2_5; have HR3_2 : Hid _ := R3_2; clear R3_2; have R3_3 := (hb3.block (w1.heap.size) (by first | (simp; done) | (simp; omega) | omega)).trans ((Below.heap_alloc _ _ _ (by first | (simp; done) | (simp; omega) | omega)).trans HR2_3.out); have z3_3 : w1.heap.size < w3.heap.size := Nat.lt_of_lt_of_le (by first | (simp; done) | (simp; omega) | omega) hb3.size; have HR3_3 : Hid _ := R3_3; clear R3_3; have R3_4 := (hb3.block (w2.heap.size) (by first | (simp; done) | (simp; omega) | omega)).trans (rownew' _ _ _ _ (by simp)); have z3_4 : w2.heap.size < w3.heap.size := Nat.lt_of_lt_of_le (by first | (simp; done) | (simp; omega) | omega) hb3.size; have HR3_4 : Hid _ := R3_4; clear R3_4; have HB3 : Hid (Below _ _ _) := hb3; clear hb3; have e2 := rowfree HR3_2.out))
  refine bodyPost_ret (v := .tuple #[.agg #[.int .i64 K, .bool B, .int .i64 S, .int .u64 H, .int .u64 L, .bool R], .nilIface]) (by simp [results, Tryz.results32, go_sem, c3_2_0, c3_2_1, c3_2_2, c3_2_3, c3_2_4, c3_2_5, e2, z3_2]; done) rfl (hQ.out _ _ ⟨rfl, ?_⟩)
  exact cset6 (cthen (cmore (cthen (cmore (cthen (cmore (cmore (cmore (Below.refl _ _) _) _) _) HB1.out) _) HB2.out) _) HB3.out) (by omega)
theorem ssum_ok (k : Int) (neg : Bool) (s : Int) (f : Nat) (k' : Int) (neg' : Bool) (s' : Int) (g : Nat) (hf : f < 2 ^ 64) (hg : g < 2 ^ 64) (h1 : soundN k neg s f = true) (h2 : soundN k' neg' s' g = true) (w : World) :
    Calls Tryz.prog 32 #[numV k neg s f, numV k' neg' s' g] w fun e w' => e = .returned (.tuple #[sum9 k neg s f 0 k' neg' s' g 0, .nilIface]) ∧ Below w.heap.size w w' := by
  have cs : ∀ (k : Int) (neg : Bool) (s : Int) (f : Nat), soundN k neg s f = true → ((k = 0 ∨ k = 2) ∧ neg = false ∧ s = 0 ∧ f = 0) ∨ k = 1 := fun k neg s f h => by
    unfold soundN at h
    by_cases c : k = 0 ∨ k = 2
    · rw [if_pos c] at h; exact .inl ⟨c, of_decide_eq_true h⟩
    · rw [if_neg c] at h; exact .inr (of_decide_eq_true h).1
  unfold sum9
  by_cases a2 : k = 2
  · rw [if_pos (.inl a2)]
    rcases cs k neg s f h1 with ⟨_, rfl, rfl, rfl⟩ | c
    · have := ssum_a1 k false 0 0 k' neg' s' g hf hg h1 h2 a2 w
      rw [a2] at this ⊢; exact this
    · omega
  · by_cases b2 : k' = 2
    · rw [if_pos (.inr b2)]
      rcases cs k' neg' s' g h2 with ⟨_, rfl, rfl, rfl⟩ | c
      · have := ssum_b1 k neg s f k' false 0 0 hf hg h1 h2 a2 (by omega) b2 w
        rw [b2] at this ⊢; exact this
      · omega
    · rw [if_neg (by omega)]
      by_cases b0 : k' = 0
      · have hr : (if k = 0 then exV k' neg' s' g 0 false else if k' = 0 then exV k neg s f 0 false else sumR neg s (manX f 0) neg' s' (manX g 0)) = exV k neg s f 0 false := by
          by_cases a0 : k = 0
          · rw [if_pos a0]
            rcases cs k neg s f h1 with ⟨_, rfl, rfl, rfl⟩ | c
            · rcases cs k' neg' s' g h2 with ⟨_, rfl, rfl, rfl⟩ | c
              · rw [a0, b0]
              · omega
            · omega
          · rw [if_neg a0, if_pos b0]
        rw [hr]
        exact ssum_a2 k neg s f k' neg' s' g hf hg h1 h2 a2 b0 w
      · by_cases a0 : k = 0
        · rw [if_pos a0]
          exact ssum_b2 k neg s f k' neg' s' g hf hg h1 h2 a2 b0 b2 a0 w
        · rw [if_neg a0, if_neg b0]
          obtain rfl : k = 1 := by rcases cs k neg s f h1 with ⟨c, _⟩ | c <;> omega
          obtain rfl : k' = 1 := by rcases cs k' neg' s' g h2 with ⟨c, _⟩ | c <;> omega
          obtain ⟨K, B, S, H, L, R, hform⟩ := sumR_form neg s (manX f 0) neg' s' (manX g 0)
          have k3 := fun w => sreals_any neg s f neg' s' g hf hg h1 h2 w
          rw [hform] at k3 ⊢
          exact ssum_r 1 neg s f 1 neg' s' g hf hg h1 h2 a2 b0 b2 a0 K B S H L R k3 w
/-! ### Add, Sub -/
theorem sadd_no (n : Int) (a b : Nat) (hn : isW n = false) (w : World) :
    Calls Tryz.prog 15 #[.int .i64 n, .int .u64 a, .int .u64 b] w fun e w' => e = .returned (.tuple #[.int .u64 0, codeV 2]) ∧ Below w.heap.size w w' := by
  have k1 := cdecode_no n a hn
  clear hn
  unfold numV at *
  refine cps fun Q hQ => ?_
  go_enter Tryz.func15, Tryz.ntmps15
  go_wp2_with (go_at_call 31; go_must (refine (k1 _).mono ?_); rintro e w1 ⟨rfl, hb1⟩)
  exact hQ.out _ _ ⟨rfl, cmore hb1 _⟩
theorem sadd_ok (n a b : Nat) (hn : Wd n) (ha : a < 2 ^ 64) (hb : b < 2 ^ 64) (w : World) :
    Calls Tryz.prog 15 #[.int .i64 n, .int .u64 a, .int .u64 b] w fun e w' => e = .returned (.tuple #[.int .u64 (patS n a b : Nat), .nilIface]) ∧ Below w.heap.size w w' := by
  have k1 := cdecode_v n a hn ha
  have k2 := cdecode_v n b hn hb
  have k3 := ssum_ok (vK n a) (vB n a) (vS n a) (vF n a) (vK n b) (vB n b) (vS n b) (vF n b) (vF_lt n a) (vF_lt n b) (sound_v n a hn ha) (sound_v n b hn hb)
  rw [sum9_val n a b hn ha hb] at k3
  have k4 : ∀ w, Calls Tryz.prog 33 #[.int .i64 n, if vK n a = 2 ∨ vK n b = 2 then exV 2 false 0 0 0 false else exI (valI n a + valI n b) eN] w fun r w' => r = .returned (.tuple #[.int .u64 (patS n a b : Nat), .nilIface]) ∧ Below w.heap.size w w' := by
    intro w
    unfold patS
    by_cases h : vK n a = 2 ∨ vK n b = 2
    · rw [if_pos h, if_pos h]; exact rround_nar n hn w
    · rw [if_neg h, if_neg h]; exact rround_exI n _ _ hn w
  have hform : ∃ K B S H L R, (if vK n a = 2 ∨ vK n b = 2 then exV 2 false 0 0 0 false else exI (valI n a + valI n b) eN) = exV K B S H L R := by
    by_cases h : vK n a = 2 ∨ vK n b = 2
    · rw [if_pos h]; exact ⟨_, _, _, _, _, _, rfl⟩
    · rw [if_neg h]; exact exI_form _ _
  obtain ⟨K, B, S, H, L, R, hform⟩ := hform
  rw [hform] at k3 k4
  clear hform hn ha hb
  generalize patS n a b = P at *
  generalize vK n a = ka at *
  generalize vB n a = ba at *
  generalize vS n a = sa at *
  generalize vF n a = fa at *
  generalize vK n b = kb at *
  generalize vB n b = bb at *
  generalize vS n b = sb at *
  generalize vF n b = fb at *
  unfold numV exV at *
  refine cps fun Q hQ => ?_
  go_enter Tryz.func15, Tryz.ntmps15
  go_wp2_with (first
    | (go_at_call 31; have chk := HB1; go_must (refine (k2 _).mono ?_); rintro e w2 ⟨rfl, hb2⟩; have R2_0 := (hb2.block (w1.heap.size) (by first | (simp; done) | (simp; omega) | omega)).trans (rownew' _ _ _ _ (by simp)); have z2_0 : w1.heap.size < w2.heap.size := Nat.lt_of_lt_of_le (by first | (simp; done) | (simp; omega) | omega) hb2.size; have c2_0_0 := rowcell R2_0 0; have c2_0_1 := rowcell R2_0 1; have c2_0_2 := rowcell R2_0 2; have c2_0_3 := rowcell R2_0 3; simp only [List.getElem?_toArray, List.getElem?_cons_zero, List.getElem?_cons_succ] at c2_0_0 c2_0_1 c2_0_2 c2_0_3; have HR2_0 : Hid _ := R2_0; clear R2_0; have HB2 : Hid (Below _ _ _) := hb2; clear hb2)
    | (go_at_call 31; go_must (refine (k1 _).mono ?_); rintro e w1 ⟨rfl, hb1⟩; have HB1 : Hid (Below _ _ _) := hb1; clear hb1)
    | (go_at_call 32; go_must (refine (k3 _).mono ?_); rintro e w3 ⟨rfl, hb3⟩; have R3_0 := (hb3.block (w1.heap.size) (by first | (simp; done) | (simp; omega) | omega)).trans ((Below.heap_alloc _ _ _ (by first | (simp; done) | (simp; omega) | omega)).trans HR2_0.out); have z3_0 : w1.heap.size < w3.heap.size := Nat.lt_of_lt_of_le (by first | (simp; done) | (simp; omega) | omega) hb3.size; have HR3_0 : Hid _ := R3_0; clear R3_0; have R3_1 := (hb3.block (w2.heap.size) (by first | (simp; done) | (simp; omega) | omega)).trans (rownew' _ _ _ _ (by simp)); have z3_1 : w2.heap.size < w3.heap.size := Nat.lt_of_lt_of_le (by first | (simp; done) | (simp; omega) | omega) hb3.size; have HR3_1 : Hid _ := R3_1; clear R3_1; have HB3 : Hid (Below _ _ _) := hb3; clear hb3)
    | (go_at_call 33; go_must (refine (k4 _).mono ?_); rintro e w4 ⟨rfl, hb4⟩; have R4_0 := (hb4.block (w1.heap.size) (by first | (simp; done) | (simp; omega) | omega)).trans ((Below.heap_alloc _ _ _ (by first | (simp; done) | (simp; omega) | omega)).trans HR3_0.out); have z4_0 : w1.heap.size < w4.heap.size := Nat.lt_of_lt_of_le (by first | (simp; done) | (simp; omega) | omega) hb4.size; have HR4_0 : Hid _ := R4_0; clear R4_0; have R4_1 := (hb4.block (w2.heap.size) (by first | (simp; done) | (simp; omega) | omega)).trans ((Below.heap_alloc _ _ _ (by first | (simp; done) | (simp; omega) | omega)).trans HR3_1.out); have z4_1 : w2.heap.size < w4.heap.size := Nat.lt_of_lt_of_le (by first | (simp; done) | (simp; omega) | omega) hb4.size; have HR4_1 : Hid _ := R4_1; clear R4_1; have R4_2 := (hb4.block (w3.heap.size) (by first | (simp; done) | (simp; omega) | omega)).trans (rownew' _ _ _ _ (by simp)); have z4_2 : w3.heap.size < w4.heap.size := Nat.lt_of_lt_of_le (by first | (simp; done) | (simp; omega) | omega) hb4.size; have HR4_2 : Hid _ := R4_2; clear R4_2; have HB4 : Hid (Below _ _ _) := hb4; clear hb4))
  exact hQ.out _ _ ⟨rfl, cthen (cmore (cthen (cmore (cthen (cmore (cthen (Below.refl _ _) HB1.out) _) HB2.out) _) HB3.out) _) HB4.out⟩
theorem ssub_walk (n : Int) (a b c : Nat) (P : Int) (v : Value) (hw : IntKind.u64.wrap (-(b : Int)) = (c : Int)) (k1 : ∀ w, Calls Tryz.prog 15 #[.int .i64 n, .int .u64 a, .int .u64 c] w fun e w' => e = .returned (.tuple #[.int .u64 P, v]) ∧ Below w.heap.size w w') (w : World) :
    Calls Tryz.prog 16 #[.int .i64 n, .int .u64 a, .int .u64 b] w fun e w' => e = .returned (.tuple #[.int .u64 P, v]) ∧ Below w.heap.size w w' := by
  refine cps fun Q hQ => ?_
  go_enter Tryz.func16, Tryz.ntmps16
  go_wp2_with (go_at_call 15; go_must (refine (k1 _).mono ?_); rintro e w1 ⟨rfl, hb1⟩)
  exact hQ.out _ _ ⟨rfl, hb1⟩
theorem ssub_no (n : Int) (a b : Nat) (hn : isW n = false) (w : World) :
    Calls Tryz.prog 16 #[.int .i64 n, .int .u64 a, .int .u64 b] w fun e w' => e = .returned (.tuple #[.int .u64 0, codeV 2]) ∧ Below w.heap.size w w' :=
  ssub_walk n a b (IntKind.u64.wrap (-(b : Int))).toNat 0 _ (by rw [IntKind.wrap_u64]; omega) (sadd_no n a _ hn) w
theorem patS_minusU (n a b : Nat) (hn : Wd n) (hb : b < 2 ^ 64) : patS n a (minusU b) = patS n a (negO n b) := by
  have hw := wd_le hn
  have e : minusU b % 2 ^ n = negO n b % 2 ^ n := by unfold negO; rw [Nat.mod_mod]
  have hv := val_mod n (minusU b) (negO n b) hn (minusU_lt b) (negO_lt64 n b hn) e
  have hk : vK n (minusU b) = vK n (negO n b) := by unfold vK; rw [e]
  unfold patS
  rw [hv, hk]
theorem ssub_ok (n a b : Nat) (hn : Wd n) (ha : a < 2 ^ 64) (hb : b < 2 ^ 64) (w : World) :
    Calls Tryz.prog 16 #[.int .i64 n, .int .u64 a, .int .u64 b] w fun e w' => e = .returned (.tuple #[.int .u64 (patS n a (negO n b) : Nat), .nilIface]) ∧ Below w.heap.size w w' := by
  rw [← patS_minusU n a b hn hb]
  exact ssub_walk n a b (minusU b) _ _ (minusU_wrap b hb) (sadd_ok n a (minusU b) hn ha (minusU_lt b)) w
end Go.Proofs.YtheliihkkoohnabGreat

namespace Go.Proofs.YtheliihkkoohnabGreat
/-! ### the contracts of package sum stand in SmI -/
end Go.Proofs.YtheliihkkoohnabGreat



namespace Go.Proofs.YtheliihkkoohnabGreat
open Go.ChangeShapes Go.WideShapes Go.ChangeAt Go.RowKit
set_option linter.unusedVariables false
set_option linter.unusedSimpArgs false
set_option maxRecDepth 100000

theorem nil_not_code (w : World) (c : Int) : (binOp BinOp.eql 25 .nilIface (.iface 29 (.int .i64 c))).run Tryz.prog w = .ok (.bool false) w := by kernel_rfl
end Go.Proofs.YtheliihkkoohnabGreat

namespace Go.Proofs.YtheliihkkoohnabGreat
open Go.ChangeShapes Go.WideShapes Go.ChangeAt Go.RowKit
set_option linter.unusedVariables false
set_option linter.unusedSimpArgs false
set_option maxRecDepth 100000

end Go.Proofs.YtheliihkkoohnabGreat

namespace Go.Proofs.YtheliihkkoohnabGreat
open Go.ChangeShapes Go.WideShapes Go.ChangeAt Go.RowKit
set_option linter.unusedVariables false
set_option linter.unusedSimpArgs false
set_option maxRecDepth 100000

/-! ### what the program answers, by the operation's number -/
theorem vdone0_no (n : Int) (a b c : Nat) (hn : isW n = false) (w : World) :
    Calls Tryz.prog 5 #[.int .i64 n, .int .i64 0, .int .u64 a, .int .u64 b, .int .u64 c] w fun e w' => e = .returned (.tuple #[.int .u64 0, codeV 2]) ∧ Below w.heap.size w w' := by
  have k1 := sadd_no n a b hn
  unfold codeV at *
  clear hn
  refine cps fun Q hQ => ?_
  go_enter Tryz.func5, Tryz.ntmps5
  go_wp2_with (go_at_call 15; refine (k1 _).mono ?_; rintro e w1 ⟨rfl, hb1⟩)
  exact hQ.out _ _ ⟨rfl, hb1⟩
theorem vdone0_ok (n a b c : Nat) (hn : Wd n) (ha : a < 2 ^ 64) (hb : b < 2 ^ 64) (hc : c < 2 ^ 64) (w : World) :
    Calls Tryz.prog 5 #[.int .i64 n, .int .i64 0, .int .u64 a, .int .u64 b, .int .u64 c] w fun e w' => e = .returned (.tuple #[.int .u64 (patS n a b : Nat), .nilIface]) ∧ Below w.heap.size w w' := by
  have k1 := sadd_ok n a b hn ha hb
  generalize patS n a b = V at *
  clear hn ha hb hc
  refine cps fun Q hQ => ?_
  go_enter Tryz.func5, Tryz.ntmps5
  go_wp2_with (go_at_call 15; refine (k1 _).mono ?_; rintro e w1 ⟨rfl, hb1⟩)
  exact hQ.out _ _ ⟨rfl, hb1⟩
theorem vdone1_no (n : Int) (a b c : Nat) (hn : isW n = false) (w : World) :
    Calls Tryz.prog 5 #[.int .i64 n, .int .i64 1, .int .u64 a, .int .u64 b, .int .u64 c] w fun e w' => e = .returned (.tuple #[.int .u64 0, codeV 2]) ∧ Below w.heap.size w w' := by
  have k1 := ssub_no n a b hn
  unfold codeV at *
  clear hn
  refine cps fun Q hQ => ?_
  go_enter Tryz.func5, Tryz.ntmps5
  go_wp2_with (go_at_call 16; refine (k1 _).mono ?_; rintro e w1 ⟨rfl, hb1⟩)
  exact hQ.out _ _ ⟨rfl, hb1⟩
theorem vdone1_ok (n a b c : Nat) (hn : Wd n) (ha : a < 2 ^ 64) (hb : b < 2 ^ 64) (hc : c < 2 ^ 64) (w : World) :
    Calls Tryz.prog 5 #[.int .i64 n, .int .i64 1, .int .u64 a, .int .u64 b, .int .u64 c] w fun e w' => e = .returned (.tuple #[.int .u64 (patS n a (negO n b) : Nat), .nilIface]) ∧ Below w.heap.size w w' := by
  have k1 := ssub_ok n a b hn ha hb
  generalize patS n a (negO n b) = V at *
  clear hn ha hb hc
  refine cps fun Q hQ => ?_
  go_enter Tryz.func5, Tryz.ntmps5
  go_wp2_with (go_at_call 16; refine (k1 _).mono ?_; rintro e w1 ⟨rfl, hb1⟩)
  exact hQ.out _ _ ⟨rfl, hb1⟩
theorem vdone2_no (n : Int) (a b c : Nat) (hn : isW n = false) (w : World) :
    Calls Tryz.prog 5 #[.int .i64 n, .int .i64 2, .int .u64 a, .int .u64 b, .int .u64 c] w fun e w' => e = .returned (.tuple #[.int .u64 0, codeV 2]) ∧ Below w.heap.size w w' := by
  have k1 := pmul_no n a b hn
  unfold codeV at *
  clear hn
  refine cps fun Q hQ => ?_
  go_enter Tryz.func5, Tryz.ntmps5
  go_wp2_with (go_at_call 17; refine (k1 _).mono ?_; rintro e w1 ⟨rfl, hb1⟩)
  exact hQ.out _ _ ⟨rfl, hb1⟩
theorem vdone2_ok (n a b c : Nat) (hn : Wd n) (ha : a < 2 ^ 64) (hb : b < 2 ^ 64) (hc : c < 2 ^ 64) (w : World) :
    Calls Tryz.prog 5 #[.int .i64 n, .int .i64 2, .int .u64 a, .int .u64 b, .int .u64 c] w fun e w' => e = .returned (.tuple #[.int .u64 (patP n a b : Nat), .nilIface]) ∧ Below w.heap.size w w' := by
  have k1 := pmul_ok n a b hn ha hb
  generalize patP n a b = V at *
  clear hn ha hb hc
  refine cps fun Q hQ => ?_
  go_enter Tryz.func5, Tryz.ntmps5
  go_wp2_with (go_at_call 17; refine (k1 _).mono ?_; rintro e w1 ⟨rfl, hb1⟩)
  exact hQ.out _ _ ⟨rfl, hb1⟩
theorem vdone3_no (n : Int) (a b c : Nat) (hn : isW n = false) (w : World) :
    Calls Tryz.prog 5 #[.int .i64 n, .int .i64 3, .int .u64 a, .int .u64 b, .int .u64 c] w fun e w' => e = .returned (.tuple #[.int .u64 0, codeV 2]) ∧ Below w.heap.size w w' := by
  have k1 := qdiv_no n a b hn
  unfold codeV at *
  clear hn
  refine cps fun Q hQ => ?_
  go_enter Tryz.func5, Tryz.ntmps5
  go_wp2_with (go_at_call 18; refine (k1 _).mono ?_; rintro e w1 ⟨rfl, hb1⟩)
  exact hQ.out _ _ ⟨rfl, hb1⟩
theorem vdone3_ok (n a b c : Nat) (hn : Wd n) (ha : a < 2 ^ 64) (hb : b < 2 ^ 64) (hc : c < 2 ^ 64) (w : World) :
    Calls Tryz.prog 5 #[.int .i64 n, .int .i64 3, .int .u64 a, .int .u64 b, .int .u64 c] w fun e w' => e = .returned (.tuple #[.int .u64 (patQ n a b : Nat), .nilIface]) ∧ Below w.heap.size w w' := by
  have k1 := qdiv_ok n a b hn ha hb
  generalize patQ n a b = V at *
  clear hn ha hb hc
  refine cps fun Q hQ => ?_
  go_enter Tryz.func5, Tryz.ntmps5
  go_wp2_with (go_at_call 18; refine (k1 _).mono ?_; rintro e w1 ⟨rfl, hb1⟩)
  exact hQ.out _ _ ⟨rfl, hb1⟩
theorem vdone4_no (n : Int) (a b c : Nat) (hn : isW n = false) (w : World) :
    Calls Tryz.prog 5 #[.int .i64 n, .int .i64 4, .int .u64 a, .int .u64 b, .int .u64 c] w fun e w' => e = .returned (.tuple #[.int .u64 0, codeV 2]) ∧ Below w.heap.size w w' := by
  have k1 := rootq_no n a hn
  unfold codeV at *
  clear hn
  refine cps fun Q hQ => ?_
  go_enter Tryz.func5, Tryz.ntmps5
  go_wp2_with (go_at_call 19; refine (k1 _).mono ?_; rintro e w1 ⟨rfl, hb1⟩)
  exact hQ.out _ _ ⟨rfl, hb1⟩
theorem vdone4_ok (n a b c : Nat) (hn : Wd n) (ha : a < 2 ^ 64) (hb : b < 2 ^ 64) (hc : c < 2 ^ 64) (w : World) :
    Calls Tryz.prog 5 #[.int .i64 n, .int .i64 4, .int .u64 a, .int .u64 b, .int .u64 c] w fun e w' => e = .returned (.tuple #[.int .u64 (patT2 n a : Nat), .nilIface]) ∧ Below w.heap.size w w' := by
  have k1 := rootq_ok n a hn ha
  generalize patT2 n a = V at *
  clear hn ha hb hc
  refine cps fun Q hQ => ?_
  go_enter Tryz.func5, Tryz.ntmps5
  go_wp2_with (go_at_call 19; refine (k1 _).mono ?_; rintro e w1 ⟨rfl, hb1⟩)
  exact hQ.out _ _ ⟨rfl, hb1⟩
theorem vdone5_no (n : Int) (a b c : Nat) (hn : isW n = false) (w : World) :
    Calls Tryz.prog 5 #[.int .i64 n, .int .i64 5, .int .u64 a, .int .u64 b, .int .u64 c] w fun e w' => e = .returned (.tuple #[.int .u64 0, codeV 2]) ∧ Below w.heap.size w w' := by
  have k1 := ffma_no n a b c hn
  unfold codeV at *
  clear hn
  refine cps fun Q hQ => ?_
  go_enter Tryz.func5, Tryz.ntmps5
  go_wp2_with (go_at_call 20; refine (k1 _).mono ?_; rintro e w1 ⟨rfl, hb1⟩)
  exact hQ.out _ _ ⟨rfl, hb1⟩
theorem vdone5_ok (n a b c : Nat) (hn : Wd n) (ha : a < 2 ^ 64) (hb : b < 2 ^ 64) (hc : c < 2 ^ 64) (w : World) :
    Calls Tryz.prog 5 #[.int .i64 n, .int .i64 5, .int .u64 a, .int .u64 b, .int .u64 c] w fun e w' => e = .returned (.tuple #[.int .u64 (patF n a b c : Nat), .nilIface]) ∧ Below w.heap.size w w' := by
  have k1 := ffma_ok n a b c hn ha hb hc
  generalize patF n a b c = V at *
  clear hn ha hb hc
  refine cps fun Q hQ => ?_
  go_enter Tryz.func5, Tryz.ntmps5
  go_wp2_with (go_at_call 20; refine (k1 _).mono ?_; rintro e w1 ⟨rfl, hb1⟩)
  exact hQ.out _ _ ⟨rfl, hb1⟩
end Go.Proofs.YtheliihkkoohnabGreat
