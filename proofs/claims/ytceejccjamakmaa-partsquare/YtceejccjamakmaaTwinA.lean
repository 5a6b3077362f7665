import Derived.Test.YtceejccjamakmaaNumsE
import Derived.Shelf.Spec.BitsCarry
import Derived.Lib.Mul64
import Derived.Lib.BitFns
namespace Go.Proofs.Ytceejccjamakmaa
open Go.ChangeShapes Go.WideShapes Go.ChangeAt Go.RowKit
set_option linter.unusedVariables false

/-! ### numbers of 128 bits -/
structure Tw (n h l : Nat) : Prop where
  eq : n = h * 18446744073709551616 + l
  hi : h ≤ 18446744073709551615
  lo : l ≤ 18446744073709551615
theorem Tw.mk' {h l : Nat} (a : h ≤ 18446744073709551615) (b : l ≤ 18446744073709551615) : Tw (h * 18446744073709551616 + l) h l := ⟨rfl, a, b⟩

theorem bmore {a w : World} (h : Below a.heap.size a w) (o : Obj) : Below a.heap.size a (w.alloc o) := h.alloc h.size o

theorem run_add64_at (x y c : Nat) (hc : c ≤ 1) (w : World) :
    (callFunc 40 #[.int .u64 x, .int .u64 y, .int .u64 c]).run Try.prog w =
      .ok (.value (.tuple #[.int .u64 (((x + y + c) % 18446744073709551616 : Nat) : Int), .int .u64 (((x + y + c) / 18446744073709551616 : Nat) : Int)])) w := by
  rw [run_callFunc_extern Try.func40 (by kernel_rfl) (by kernel_rfl) (by kernel_rfl) (e := add64Entry) (by kernel_rfl), run_add64 x y c (by omega) (by omega) (by omega) (by omega)]
  simp only [Result.andThen]
  congr 5 <;> omega
theorem run_sub64_at (x y b : Nat) (hb : b ≤ 1) (w : World) :
    (callFunc 46 #[.int .u64 x, .int .u64 y, .int .u64 b]).run Try.prog w =
      .ok (.value (.tuple #[.int .u64 (((x + 18446744073709551616 - y - b) % 18446744073709551616 : Nat) : Int), .int .u64 ((if x < y + b then 1 else 0 : Nat) : Int)])) w := by
  rw [run_callFunc_extern Try.func46 (by kernel_rfl) (by kernel_rfl) (by kernel_rfl) (e := sub64Entry) (by kernel_rfl), run_sub64 x y b hb]
  rfl

theorem tadd_any {a b h1 l1 h2 l2 h l : Nat} {c : Bool} (ha : Tw a h1 l1) (hb : Tw b h2 l2) (hs : Tw ((a + b) % 340282366920938463463374607431768211456) h l) (hc : c = decide (340282366920938463463374607431768211456 ≤ a + b)) (w : World) :
    Calls Try.prog 21 #[.agg #[.int .u64 h1, .int .u64 l1], .agg #[.int .u64 h2, .int .u64 l2]] w fun e w' => e = .returned (.tuple #[.agg #[.int .u64 h, .int .u64 l], .bool c]) ∧ Below w.heap.size w w' := by
  refine cps fun Q hQ => ?_
  obtain ⟨ea, ha1, ha2⟩ := ha
  obtain ⟨eb, hb1, hb2⟩ := hb
  obtain ⟨es, hs1, hs2⟩ := hs
  obtain ⟨s1, e1⟩ : ∃ s, s = (l1 + l2 + 0) % 18446744073709551616 := ⟨_, rfl⟩
  obtain ⟨c1, e2⟩ : ∃ s, s = (l1 + l2 + 0) / 18446744073709551616 := ⟨_, rfl⟩
  obtain ⟨s2, e3⟩ : ∃ s, s = (h1 + h2 + c1) % 18446744073709551616 := ⟨_, rfl⟩
  obtain ⟨c2, e4⟩ : ∃ s, s = (h1 + h2 + c1) / 18446744073709551616 := ⟨_, rfl⟩
  have r1 := run_add64_at l1 l2 0 (by omega)
  have r2 := run_add64_at h1 h2 c1 (by omega)
  rw [← e1, ← e2] at r1
  have r1 : ∀ w, (callFunc 40 #[.int .u64 l1, .int .u64 l2, .int .u64 0]).run Try.prog w = .ok (.value (.tuple #[.int .u64 s1, .int .u64 c1])) w := r1
  rw [← e3, ← e4] at r2
  have q1 : s1 = l := by omega
  have q2 : s2 = h := by omega
  have hc2 : c2 ≤ 1 := by omega
  have q3 : c = decide (c2 = 1) := by rw [hc]; refine decide_eq_decide.2 ?_; omega
  clear e1 e2 e3 e4 hc ea eb es
  subst q1 q2
  have HC : Hid (c = decide (c2 = 1)) := q3
  clear q3
  go_enter Try.func21, Try.ntmps21
  go_wp2_with (simp only [r1, r2])
  refine bodyPost_ret (v := .tuple #[.agg #[.int .u64 s2, .int .u64 s1], .bool c]) (by simp [results, Try.results21, go_sem]; rw [HC.out]; rcases (show c2 = 0 ∨ c2 = 1 by omega) with h | h <;> rw [h] <;> rfl) rfl (hQ.out _ _ ⟨rfl, ?_⟩)
  exact bmore (bmore (bmore (Below.refl _ _) _) _) _
theorem tsub_any {a b h1 l1 h2 l2 h l : Nat} {c : Bool} (ha : Tw a h1 l1) (hb : Tw b h2 l2) (hs : Tw ((a + 340282366920938463463374607431768211456 - b) % 340282366920938463463374607431768211456) h l) (hc : c = decide (a < b)) (w : World) :
    Calls Try.prog 26 #[.agg #[.int .u64 h1, .int .u64 l1], .agg #[.int .u64 h2, .int .u64 l2]] w fun e w' => e = .returned (.tuple #[.agg #[.int .u64 h, .int .u64 l], .bool c]) ∧ Below w.heap.size w w' := by
  refine cps fun Q hQ => ?_
  obtain ⟨ea, ha1, ha2⟩ := ha
  obtain ⟨eb, hb1, hb2⟩ := hb
  obtain ⟨es, hs1, hs2⟩ := hs
  obtain ⟨s1, e1⟩ : ∃ s, s = (l1 + 18446744073709551616 - l2 - 0) % 18446744073709551616 := ⟨_, rfl⟩
  obtain ⟨c1, e2⟩ : ∃ s, s = (if l1 < l2 + 0 then 1 else 0) := ⟨_, rfl⟩
  obtain ⟨s2, e3⟩ : ∃ s, s = (h1 + 18446744073709551616 - h2 - c1) % 18446744073709551616 := ⟨_, rfl⟩
  obtain ⟨c2, e4⟩ : ∃ s, s = (if h1 < h2 + c1 then 1 else 0) := ⟨_, rfl⟩
  have r1 := run_sub64_at l1 l2 0 (by omega)
  have r2 := run_sub64_at h1 h2 c1 (by rw [e2]; split <;> omega)
  rw [← e1, ← e2] at r1
  have r1 : ∀ w, (callFunc 46 #[.int .u64 l1, .int .u64 l2, .int .u64 0]).run Try.prog w = .ok (.value (.tuple #[.int .u64 s1, .int .u64 c1])) w := r1
  rw [← e3, ← e4] at r2
  have hc1 : (c1 = 1 ∧ l1 < l2) ∨ (c1 = 0 ∧ l2 ≤ l1) := by rw [e2]; split <;> omega
  have hc3 : (c2 = 1 ∧ h1 < h2 + c1) ∨ (c2 = 0 ∧ h2 + c1 ≤ h1) := by rw [e4]; split <;> omega
  have q1 : s1 = l := by omega
  have q2 : s2 = h := by omega
  have hc2 : c2 ≤ 1 := by omega
  have q3 : c = decide (c2 = 1) := by rw [hc]; refine decide_eq_decide.2 ?_; omega
  clear e1 e2 e3 e4 hc ea eb es hc1 hc3
  subst q1 q2
  have HC : Hid (c = decide (c2 = 1)) := q3
  clear q3
  go_enter Try.func26, Try.ntmps26
  go_wp2_with (simp only [r1, r2])
  refine bodyPost_ret (v := .tuple #[.agg #[.int .u64 s2, .int .u64 s1], .bool c]) (by simp [results, Try.results26, go_sem]; rw [HC.out]; rcases (show c2 = 0 ∨ c2 = 1 by omega) with h | h <;> rw [h] <;> rfl) rfl (hQ.out _ _ ⟨rfl, ?_⟩)
  exact bmore (bmore (bmore (Below.refl _ _) _) _) _

theorem maskN (a : Nat) (ha : a < 18446744073709551616) : bits .and .u64 (a : Int) 4294967295 = ((a % 4294967296 : Nat) : Int) := by
  have e := u64_and_nat a 4294967295 ha (by decide)
  rw [show ((4294967295 : Nat) : Int) = 4294967295 from rfl] at e
  rw [e, show (4294967295 : Nat) = 2 ^ 32 - 1 from rfl, Nat.and_two_pow_sub_one_eq_mod]
theorem divN (a : Nat) : (a : Int) / 4294967296 = ((a / 4294967296 : Nat) : Int) := by omega
theorem mulN (a b : Nat) : (a : Int) * (b : Int) = ((a * b : Nat) : Int) := (Int.natCast_mul a b).symm
theorem addN (a b : Nat) : (a : Int) + (b : Int) = ((a + b : Nat) : Int) := (Int.natCast_add a b).symm
theorem wrapU (a : Nat) (ha : a < 18446744073709551616) : IntKind.u64.wrap (a : Int) = (a : Int) := by rw [IntKind.wrap_u64]; omega
theorem wrapM (a : Nat) : IntKind.u64.wrap (a : Int) = ((a % 18446744073709551616 : Nat) : Int) := by rw [IntKind.wrap_u64]; omega
set_option maxHeartbeats 1000000 in
theorem mul64_any (x y : Nat) (hx : x < 18446744073709551616) (hy : y < 18446744073709551616) (w : World) :
    Calls Try.prog 37 #[.int .u64 x, .int .u64 y] w fun e w' => e = .returned (.tuple #[.int .u64 ((x * y / 18446744073709551616 : Nat) : Int), .int .u64 ((x * y % 18446744073709551616 : Nat) : Int)]) ∧ w' = w := by
  obtain ⟨bd, bt, bw, hhi⟩ := Lib.mul64_hi x y hx hy
  have ba := Lib.half_mul_le (a := x / 4294967296) (b := y / 4294967296) (by omega) (by omega)
  have bb := Lib.half_mul_le (a := x / 4294967296) (b := y % 4294967296) (by omega) (by omega)
  have bc := Lib.half_mul_le (a := x % 4294967296) (b := y / 4294967296) (by omega) (by omega)
  have ba' : x / 4294967296 * (y / 4294967296) < 18446744073709551616 := by omega
  have bb' : x / 4294967296 * (y % 4294967296) < 18446744073709551616 := by omega
  have bc' : x % 4294967296 * (y / 4294967296) < 18446744073709551616 := by omega
  have bh1 : x / 4294967296 * (y / 4294967296) + (x / 4294967296 * (y % 4294967296) + x % 4294967296 * (y % 4294967296) / 4294967296) / 4294967296 < 18446744073709551616 := by omega
  have bh : x / 4294967296 * (y / 4294967296) + (x / 4294967296 * (y % 4294967296) + x % 4294967296 * (y % 4294967296) / 4294967296) / 4294967296 + ((x / 4294967296 * (y % 4294967296) + x % 4294967296 * (y % 4294967296) / 4294967296) % 4294967296 + x % 4294967296 * (y / 4294967296)) / 4294967296 < 18446744073709551616 := by omega
  go_enter Try.func37, Try.ntmps37
  go_wp2
  simp only [maskN x hx, maskN y hy, divN, mulN, addN, wrapU _ bd, wrapU _ bb', wrapU _ bt, maskN _ bt, wrapU _ bc', wrapU _ bw, wrapU _ ba', wrapU _ bh1, wrapU _ bh, wrapM (x * y)]
  rw [hhi]
  go_ret2
  exact ⟨rfl, rfl⟩

theorem tmul_any {x y h l : Nat} (hx : x ≤ 18446744073709551615) (hy : y ≤ 18446744073709551615) (hs : Tw (x * y) h l) (w : World) :
    Calls Try.prog 19 #[.int .u64 x, .int .u64 y] w fun e w' => e = .returned (.agg #[.int .u64 h, .int .u64 l]) ∧ Below w.heap.size w w' := by
  refine cps fun Q hQ => ?_
  obtain ⟨es, hs1, hs2⟩ := hs
  have r1 := mul64_any x y (by omega) (by omega)
  have e1 : x * y / 18446744073709551616 = h := by rw [es]; omega
  have e2 : x * y % 18446744073709551616 = l := by rw [es]; omega
  rw [e1, e2] at r1
  clear e1 e2 es
  go_enter Try.func19, Try.ntmps19
  go_wp2_with (go_at_call 37; refine (r1 _).mono ?_; rintro e w' ⟨rfl, hw⟩; rw [hw]; clear hw w')
  refine bodyPost_ret (v := .agg #[.int .u64 h, .int .u64 l]) (by simp [results, Try.results19, go_sem]) rfl (hQ.out _ _ ⟨rfl, ?_⟩)
  exact bmore (Below.refl _ _) _
end Go.Proofs.Ytceejccjamakmaa
