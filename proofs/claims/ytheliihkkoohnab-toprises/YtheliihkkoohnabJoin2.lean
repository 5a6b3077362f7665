import Derived.Test.YtheliihkkoohnabJoin1
import Derived.Shelf.Spec.BitsCarry
import Derived.Lib.Mul64
import Derived.Lib.BitFns
namespace Go.Proofs.Ytheliihkkoohnab
set_option maxRecDepth 100000
open Go.ChangeShapes Go.WideShapes Go.ChangeAt Go.RowKit
set_option linter.unusedVariables false

/-! ### numbers of 128 bits -/
structure Tw (n h l : Nat) : Prop where
  eq : n = h * 18446744073709551616 + l
  hi : h ≤ 18446744073709551615
  lo : l ≤ 18446744073709551615
theorem bmore {a w : World} (h : Below a.heap.size a w) (o : Obj) : Below a.heap.size a (w.alloc o) := h.alloc h.size o

theorem run_add64_at (x y c : Nat) (hc : c ≤ 1) (w : World) :
    (callFunc 63 #[.int .u64 x, .int .u64 y, .int .u64 c]).run Try.prog w =
      .ok (.value (.tuple #[.int .u64 (((x + y + c) % 18446744073709551616 : Nat) : Int), .int .u64 (((x + y + c) / 18446744073709551616 : Nat) : Int)])) w := by
  rw [run_callFunc_extern Try.func63 (by kernel_rfl) (by kernel_rfl) (by kernel_rfl) (e := add64Entry) (by kernel_rfl), run_add64 x y c (by omega) (by omega) (by omega) (by omega)]
  simp only [Result.andThen]
  congr 5 <;> omega
theorem run_sub64_at (x y b : Nat) (hb : b ≤ 1) (w : World) :
    (callFunc 64 #[.int .u64 x, .int .u64 y, .int .u64 b]).run Try.prog w =
      .ok (.value (.tuple #[.int .u64 (((x + 18446744073709551616 - y - b) % 18446744073709551616 : Nat) : Int), .int .u64 ((if x < y + b then 1 else 0 : Nat) : Int)])) w := by
  rw [run_callFunc_extern Try.func64 (by kernel_rfl) (by kernel_rfl) (by kernel_rfl) (e := sub64Entry) (by kernel_rfl), run_sub64 x y b hb]
  rfl

theorem maskN (a : Nat) (ha : a < 18446744073709551616) : bits .and .u64 (a : Int) 4294967295 = ((a % 4294967296 : Nat) : Int) := by
  have e := u64_and_nat a 4294967295 ha (by decide)
  rw [show ((4294967295 : Nat) : Int) = 4294967295 from rfl] at e
  rw [e, show (4294967295 : Nat) = 2 ^ 32 - 1 from rfl, Nat.and_two_pow_sub_one_eq_mod]
theorem divN (a : Nat) : (a : Int) / 4294967296 = ((a / 4294967296 : Nat) : Int) := by omega
theorem mulN (a b : Nat) : (a : Int) * (b : Int) = ((a * b : Nat) : Int) := (Int.natCast_mul a b).symm
theorem addN (a b : Nat) : (a : Int) + (b : Int) = ((a + b : Nat) : Int) := (Int.natCast_add a b).symm
theorem wrapU (a : Nat) (ha : a < 18446744073709551616) : IntKind.u64.wrap (a : Int) = (a : Int) := by rw [IntKind.wrap_u64]; omega
theorem wrapM (a : Nat) : IntKind.u64.wrap (a : Int) = ((a % 18446744073709551616 : Nat) : Int) := by rw [IntKind.wrap_u64]; omega
set_option maxHeartbeats 1000000 in
theorem mul64_any (x y : Nat) (hx : x < 18446744073709551616) (hy : y < 18446744073709551616) (w : World) :
    Calls Try.prog 54 #[.int .u64 x, .int .u64 y] w fun e w' => e = .returned (.tuple #[.int .u64 ((x * y / 18446744073709551616 : Nat) : Int), .int .u64 ((x * y % 18446744073709551616 : Nat) : Int)]) ∧ w' = w := by
  obtain ⟨bd, bt, bw, hhi⟩ := Lib.mul64_hi x y hx hy
  have ba := Lib.half_mul_le (a := x / 4294967296) (b := y / 4294967296) (by omega) (by omega)
  have bb := Lib.half_mul_le (a := x / 4294967296) (b := y % 4294967296) (by omega) (by omega)
  have bc := Lib.half_mul_le (a := x % 4294967296) (b := y / 4294967296) (by omega) (by omega)
  have ba' : x / 4294967296 * (y / 4294967296) < 18446744073709551616 := by omega
  have bb' : x / 4294967296 * (y % 4294967296) < 18446744073709551616 := by omega
  have bc' : x % 4294967296 * (y / 4294967296) < 18446744073709551616 := by omega
  have bh1 : x / 4294967296 * (y / 4294967296) + (x / 4294967296 * (y % 4294967296) + x % 4294967296 * (y % 4294967296) / 4294967296) / 4294967296 < 18446744073709551616 := by omega
  have bh : x / 4294967296 * (y / 4294967296) + (x / 4294967296 * (y % 4294967296) + x % 4294967296 * (y % 4294967296) / 4294967296) / 4294967296 + ((x / 4294967296 * (y % 4294967296) + x % 4294967296 * (y % 4294967296) / 4294967296) % 4294967296 + x % 4294967296 * (y / 4294967296)) / 4294967296 < 18446744073709551616 := by omega
  go_enter Try.func54, Try.ntmps54
  go_wp2
  simp only [maskN x hx, maskN y hy, divN, mulN, addN, wrapU _ bd, wrapU _ bb', wrapU _ bt, maskN _ bt, wrapU _ bc', wrapU _ bw, wrapU _ ba', wrapU _ bh1, wrapU _ bh, wrapM (x * y)]
  rw [hhi]
  go_ret2
  exact ⟨rfl, rfl⟩

theorem tmul_any {x y h l : Nat} (hx : x ≤ 18446744073709551615) (hy : y ≤ 18446744073709551615) (hs : Tw (x * y) h l) (w : World) :
    Calls Try.prog 33 #[.int .u64 x, .int .u64 y] w fun e w' => e = .returned (.agg #[.int .u64 h, .int .u64 l]) ∧ Below w.heap.size w w' := by
  refine cps fun Q hQ => ?_
  obtain ⟨es, hs1, hs2⟩ := hs
  have r1 := mul64_any x y (by omega) (by omega)
  have e1 : x * y / 18446744073709551616 = h := by rw [es]; omega
  have e2 : x * y % 18446744073709551616 = l := by rw [es]; omega
  rw [e1, e2] at r1
  clear e1 e2 es
  go_enter Try.func33, Try.ntmps33
  go_wp2_with (go_at_call 54; refine (r1 _).mono ?_; rintro e w' ⟨rfl, hw⟩; rw [hw]; clear hw w')
  refine bodyPost_ret (v := .agg #[.int .u64 h, .int .u64 l]) (by simp [results, Try.results33, go_sem]) rfl (hQ.out _ _ ⟨rfl, ?_⟩)
  exact bmore (Below.refl _ _) _
end Go.Proofs.Ytheliihkkoohnab

namespace Go.Proofs.Ytheliihkkoohnab
set_option maxRecDepth 100000
open Go.ChangeShapes Go.WideShapes Go.ChangeAt Go.RowKit
set_option linter.unusedVariables false

theorem bthen {a W w : World} (h : Below a.heap.size a W) (hb : Below W.heap.size W w) : Below a.heap.size a w := h.trans (hb.mono h.size)
theorem bdrew {a W : World} (h : Below a.heap.size a W) : Below a.heap.size a W.drew := h.drew
theorem bdrewN {a W : World} (h : Below a.heap.size a W) (q : Nat) : Below a.heap.size a (W.drewN q) := below_drewN h q

theorem drew_at (w : World) (c : Array Value) (t : TypeId) (n i : Nat) (hn : n = w.heap.size) : (w.alloc (.cells c t)).drew.cell? ⟨n, i, none⟩ = c[i]? := World.cell?_alloc_at c t n i hn
theorem bcell {W w1 : World} (hb : Below W.heap.size W w1) : (∀ b o, b < W.heap.size → w1.cell? ⟨b, o, none⟩ = W.cell? ⟨b, o, none⟩) ∧ (∀ b o, b < W.heap.size → w1.frozen? ⟨b, o, none⟩ = W.frozen? ⟨b, o, none⟩) :=
  ⟨fun b o h => hb.cell (p := ⟨b, o, none⟩) h, fun b o h => hb.frozen (p := ⟨b, o, none⟩) h⟩
theorem bset {a W : World} {b : Nat} (h : Below a.heap.size a W) (hb : a.heap.size ≤ b) (o : Nat) (v : Value) : Below a.heap.size a (W.setCell ⟨b, o, none⟩ v) := h.setCell hb _
theorem Tw.lt {n h l : Nat} (t : Tw n h l) : n < 340282366920938463463374607431768211456 := by
  obtain ⟨e, a, b⟩ := t; omega
/-! ### cmp -/
theorem isnan_any (x : Nat) (w : World) : Calls Try.prog 83 #[.int .u64 x] w fun e w' => e = .returned (.bool false) ∧ w' = w := by
  refine cps fun Q hQ => ?_
  go_enter Try.func83, Try.ntmps83
  go_wp2
  exact hQ.out _ _ ⟨by simp, rfl⟩
theorem compare_any (x y : Nat) (w : World) : Calls Try.prog 81 #[.int .u64 x, .int .u64 y] w fun e w' => e = .returned (.int .i64 (cmpN x y)) ∧ w' = w := by
  refine cps fun Q hQ => ?_
  have hE : (x < y ∧ cmpN x y = -1) ∨ (y < x ∧ cmpN x y = 1) ∨ (x = y ∧ cmpN x y = 0) := by
    unfold cmpN; split
    · exact .inl ⟨by assumption, rfl⟩
    · split
      · exact .inr (.inr ⟨by assumption, rfl⟩)
      · exact .inr (.inl ⟨by omega, rfl⟩)
  rcases hE with ⟨h, hE⟩ | ⟨h, hE⟩ | ⟨h, hE⟩
  all_goals
    rw [hE] at hQ
    have hlt : ((x : Int) < (y : Int)) = (x < y) := by simp
    clear hE
    go_enter Try.func81, Try.ntmps81
    go_wp2_with (go_at_call 83; refine (isnan_any _ _).mono ?_; rintro e w' ⟨rfl, hw⟩; rw [hw]; clear hw w')
    exact hQ.out _ _ ⟨rfl, rfl⟩
theorem or_any (x y : Int) (g : Nat) (w : World) (c1 : w.cell? ⟨g, 0, none⟩ = some (.int .i64 x)) (c2 : w.cell? ⟨g, 1, none⟩ = some (.int .i64 y)) :
    Calls Try.prog 59 #[.slice (some ⟨g, 0, none⟩) 2 2] w fun e w' => e = .returned (.int .i64 (if x = 0 then y else x)) ∧ w' = w := by
  refine cps fun Q hQ => ?_
  go_enter Try.func59, Try.ntmps59
  go_wp2
  go_loop [8] (fun i => i = .int .i64 0 ∨ (i = .int .i64 1 ∧ x = 0) ∨ (i = .int .i64 2 ∧ x = 0 ∧ y = 0)) (fun i => (2 - intOf i).toNat)
  case atStart => exact .inl rfl
  case round =>
    rcases hrel with rfl | ⟨rfl, hx⟩ | ⟨rfl, hx, hy⟩
    · by_cases hx : x = 0
      · subst hx
        go_wp2
        go_round
        case rel => exact .inr (.inl ⟨rfl, by trivial⟩)
        case measure => simp [intOf]
      · rw [if_neg hx] at hQ
        go_wp2
        exact hQ.out _ _ ⟨rfl, rfl⟩
    · subst hx
      rw [if_pos rfl] at hQ
      by_cases hy : y = 0
      · subst hy
        go_wp2
        go_round
        case rel => exact .inr (.inr ⟨rfl, by trivial, by trivial⟩)
        case measure => simp [intOf]
      · go_wp2
        exact hQ.out _ _ ⟨rfl, rfl⟩
    · subst hx hy
      rw [if_pos rfl] at hQ
      go_wp2
      exact hQ.out _ _ ⟨rfl, rfl⟩
theorem or_any' (x y z : Int) (hz : z = if x = 0 then y else x) (g : Nat) (w : World) (c1 : w.cell? ⟨g, 0, none⟩ = some (.int .i64 x)) (c2 : w.cell? ⟨g, 1, none⟩ = some (.int .i64 y)) :
    Calls Try.prog 59 #[.slice (some ⟨g, 0, none⟩) 2 2] w fun e w' => e = .returned (.int .i64 z) ∧ w' = w := by rw [hz]; exact or_any x y g w c1 c2
theorem cmp_words {a b h1 l1 h2 l2 : Nat} (ha : Tw a h1 l1) (hb : Tw b h2 l2) : (if cmpN h1 h2 = 0 then cmpN l1 l2 else cmpN h1 h2) = cmpN a b := by
  obtain ⟨ea, ha1, ha2⟩ := ha
  obtain ⟨eb, hb1, hb2⟩ := hb
  rcases Nat.lt_trichotomy h1 h2 with h | h | h
  · rw [cmpN_lt h, cmpN_lt (show a < b by omega)]; rfl
  · subst h
    rw [cmpN_eq, if_pos rfl]
    rcases Nat.lt_trichotomy l1 l2 with h | h | h
    · rw [cmpN_lt h, cmpN_lt (show a < b by omega)]
    · subst h; rw [cmpN_eq, show a = b by omega, cmpN_eq]
    · rw [cmpN_gt h, cmpN_gt (show b < a by omega)]
  · rw [cmpN_gt h, cmpN_gt (show b < a by omega)]; rfl
/-! ### Len -/
theorem bitLen_eq (x : Nat) (hx : x ≤ 18446744073709551615) : Lib.bitLen x = blen x := by
  have h1 : ∀ f x : Nat, x < 2 ^ f → Lib.bitLenAux f x = blen x := by
    intro f
    induction f with
    | zero => intro x h; have : x = 0 := by omega
              subst this; rw [blen_zero]; rfl
    | succ f ih =>
      intro x h
      unfold Lib.bitLenAux
      by_cases h0 : x = 0
      · subst h0; rw [blen_zero]; rfl
      · rw [if_neg h0, blen_pos h0, ih _ (by rw [Nat.pow_succ] at h; omega), Nat.add_comm]
  exact h1 64 x (by omega)
theorem tlen_any {a h1 l1 : Nat} (ha : Tw a h1 l1) (w : World) :
    Calls Try.prog 73 #[.agg #[.int .u64 h1, .int .u64 l1]] w fun e w' => e = .returned (.int .i64 (blen a)) ∧ Below w.heap.size w w' := by
  refine cps fun Q hQ => ?_
  obtain ⟨ea, ha1, ha2⟩ := ha
  have r : ∀ (x : Nat) (hx : x ≤ 18446744073709551615) (w : World), Calls Try.prog 79 #[.int .u64 x] w fun e w' => e = .returned (.int .i64 (blen x)) ∧ w' = w := fun x hx w => by
    rw [← bitLen_eq x hx]; exact len64_any x (by omega) w
  by_cases h0 : h1 = 0
  · have e : a = l1 := by omega
    rw [e] at hQ
    have r2 := r l1 ha2
    clear r e ea
    subst h0
    go_enter Try.func73, Try.ntmps73
    go_wp2_with (go_at_call 79; refine (r2 _).mono ?_; rintro e w' ⟨rfl, hw⟩; rw [hw]; clear hw w')
    exact hQ.out _ _ ⟨rfl, bmore (Below.refl _ _) _⟩
  · have hd : a / 2 ^ 64 = h1 := by omega
    have e := blen_shift (a := a) (k := 64) (by omega)
    rw [hd] at e
    rw [e] at hQ
    have r2 := r h1 ha1
    have hb : blen h1 ≤ 64 := blen_le.2 (by omega)
    generalize blen h1 = L at *
    clear r e ea hd
    go_enter Try.func73, Try.ntmps73
    go_wp2_with (go_at_call 79; refine (r2 _).mono ?_; rintro e w' ⟨rfl, hw⟩; rw [hw]; clear hw w')
    exact hQ.out _ _ ⟨ret_i (by omega), bmore (Below.refl _ _) _⟩
end Go.Proofs.Ytheliihkkoohnab

namespace Go.Proofs.Ytheliihkkoohnab
set_option maxRecDepth 100000
open Go.ChangeShapes Go.WideShapes Go.ChangeAt Go.RowKit
set_option linter.unusedVariables false

theorem up_near (h1 l1 k : Nat) (hh : h1 ≤ 18446744073709551615) (hl : l1 ≤ 18446744073709551615) (hk : k < 64) :
    Tw ((h1 * 18446744073709551616 + l1) * 2 ^ k % 340282366920938463463374607431768211456) (((h1 <<< k) % 2 ^ 64) ||| (l1 >>> (64 - k))) ((l1 <<< k) % 2 ^ 64) := by
  have e : 2 ^ 64 = 2 ^ k * 2 ^ (64 - k) := by rw [← Nat.pow_add]; congr 1; omega
  have hp : 0 < 2 ^ k := Nat.pow_pos (by decide)
  have hq : 0 < 2 ^ (64 - k) := Nat.pow_pos (by decide)
  have h3 : l1 >>> (64 - k) < 2 ^ k := by
    rw [Nat.shiftRight_eq_div_pow]; exact Nat.div_lt_of_lt_mul (by rw [Nat.mul_comm, ← e]; omega)
  have h4 : (h1 <<< k) % 2 ^ 64 = (h1 % 2 ^ (64 - k)) <<< k := by
    rw [Nat.shiftLeft_eq, Nat.shiftLeft_eq, e, Nat.mul_comm h1, Nat.mul_mod_mul_left, Nat.mul_comm]
  have h5 : ((h1 <<< k) % 2 ^ 64) ||| (l1 >>> (64 - k)) = (h1 <<< k) % 2 ^ 64 + l1 >>> (64 - k) := by
    rw [h4, Nat.shiftLeft_add_eq_or_of_lt h3]
  rw [h5]
  have h6 : l1 * 2 ^ k = (l1 >>> (64 - k)) * 2 ^ 64 + (l1 <<< k) % 2 ^ 64 := by
    rw [Nat.shiftRight_eq_div_pow, Nat.shiftLeft_eq]
    have h7 : l1 / 2 ^ (64 - k) = l1 * 2 ^ k / 2 ^ 64 := by rw [e, Nat.mul_comm (2 ^ k) (2 ^ (64 - k)), Nat.mul_div_mul_right _ _ hp]
    rw [h7]; omega
  have h8 : (h1 * 18446744073709551616 + l1) * 2 ^ k = h1 * 2 ^ k * 18446744073709551616 + l1 * 2 ^ k := by rw [Nat.add_mul, Nat.mul_right_comm]
  have h9 : (h1 <<< k) = h1 * 2 ^ k := Nat.shiftLeft_eq _ _
  have h10 : h1 * 2 ^ k % 2 ^ 64 + l1 >>> (64 - k) < 2 ^ 64 := by
    rw [← h9, h4, Nat.shiftLeft_eq]
    have := Nat.mod_lt h1 hq
    have h11 : (h1 % 2 ^ (64 - k) + 1) * 2 ^ k ≤ 2 ^ (64 - k) * 2 ^ k := Nat.mul_le_mul this (Nat.le_refl _)
    rw [Nat.add_mul, Nat.one_mul, Nat.mul_comm (2 ^ (64 - k)), ← e] at h11
    omega
  rw [h8, h6, h9]
  generalize h1 * 2 ^ k = X at *
  generalize l1 >>> (64 - k) = Y at *
  have hz : l1 <<< k % 2 ^ 64 < 2 ^ 64 := Nat.mod_lt _ (by decide)
  generalize l1 <<< k % 2 ^ 64 = Z at *
  clear h3 h4 h5 h6 h8 h9 e hp hq
  refine ⟨by omega, by omega, by omega⟩
theorem up_far (h1 l1 k : Nat) (hk : 64 ≤ k) : Tw ((h1 * 18446744073709551616 + l1) * 2 ^ k % 340282366920938463463374607431768211456) ((l1 <<< (k - 64)) % 2 ^ 64) 0 := by
  have e : 2 ^ k = 2 ^ (k - 64) * 2 ^ 64 := by rw [← Nat.pow_add]; congr 1; omega
  have h8 : (h1 * 18446744073709551616 + l1) * 2 ^ k = h1 * 2 ^ (k - 64) * 340282366920938463463374607431768211456 + l1 * 2 ^ (k - 64) * 18446744073709551616 := by
    rw [e, Nat.add_mul, show (340282366920938463463374607431768211456 : Nat) = 2 ^ 64 * 2 ^ 64 by decide, show (18446744073709551616 : Nat) = 2 ^ 64 by decide]
    rw [← Nat.mul_assoc l1, ← Nat.mul_assoc (h1 * 2 ^ (k - 64)), Nat.mul_assoc h1 (2 ^ 64), Nat.mul_comm (2 ^ 64) (2 ^ (k - 64) * 2 ^ 64), ← Nat.mul_assoc h1, ← Nat.mul_assoc h1]
  rw [h8, Nat.shiftLeft_eq]
  generalize h1 * 2 ^ (k - 64) = X
  generalize l1 * 2 ^ (k - 64) = Y
  refine ⟨by omega, by omega, by omega⟩
theorem down_near (h1 l1 k : Nat) (hh : h1 ≤ 18446744073709551615) (hl : l1 ≤ 18446744073709551615) (hk : k < 64) :
    Tw ((h1 * 18446744073709551616 + l1) / 2 ^ k) (h1 >>> k) ((l1 >>> k) ||| ((h1 <<< (64 - k)) % 2 ^ 64)) := by
  have e : 2 ^ 64 = 2 ^ k * 2 ^ (64 - k) := by rw [← Nat.pow_add]; congr 1; omega
  have hp : 0 < 2 ^ k := Nat.pow_pos (by decide)
  have hq : 0 < 2 ^ (64 - k) := Nat.pow_pos (by decide)
  have h3 : l1 >>> k < 2 ^ (64 - k) := by
    rw [Nat.shiftRight_eq_div_pow]; exact Nat.div_lt_of_lt_mul (by rw [← e]; omega)
  have h4 : (h1 <<< (64 - k)) % 2 ^ 64 = (h1 % 2 ^ k) <<< (64 - k) := by
    rw [Nat.shiftLeft_eq, Nat.shiftLeft_eq, e, Nat.mul_mod_mul_right]
  have h5 : (l1 >>> k) ||| ((h1 <<< (64 - k)) % 2 ^ 64) = (h1 % 2 ^ k) * 2 ^ (64 - k) + l1 >>> k := by
    rw [h4, Nat.or_comm, ← Nat.shiftLeft_add_eq_or_of_lt h3, Nat.shiftLeft_eq]
  rw [h5]
  have h7 : h1 * 18446744073709551616 + l1 = (h1 / 2 ^ k * 18446744073709551616 + h1 % 2 ^ k * 2 ^ (64 - k)) * 2 ^ k + l1 := by
    have a1 : h1 * 18446744073709551616 = (2 ^ k * (h1 / 2 ^ k) + h1 % 2 ^ k) * 18446744073709551616 := by rw [Nat.div_add_mod]
    have a2 : h1 % 2 ^ k * 18446744073709551616 = h1 % 2 ^ k * 2 ^ (64 - k) * 2 ^ k := by
      rw [Nat.mul_assoc, Nat.mul_comm (2 ^ (64 - k)), ← e]
    rw [a1, Nat.add_mul, a2, Nat.add_mul, Nat.mul_comm (2 ^ k), Nat.mul_right_comm]
  rw [h7, Nat.add_comm, Nat.add_mul_div_right _ _ hp, Nat.shiftRight_eq_div_pow, Nat.shiftRight_eq_div_pow]
  rw [Nat.shiftRight_eq_div_pow] at h3
  have h8 : (h1 % 2 ^ k) * 2 ^ (64 - k) + l1 / 2 ^ k < 2 ^ 64 := by
    have := Nat.mod_lt h1 hp
    have h11 : (h1 % 2 ^ k + 1) * 2 ^ (64 - k) ≤ 2 ^ k * 2 ^ (64 - k) := Nat.mul_le_mul this (Nat.le_refl _)
    rw [Nat.add_mul, Nat.one_mul, ← e] at h11
    omega
  have h9 : h1 / 2 ^ k ≤ h1 := Nat.div_le_self _ _
  generalize (h1 % 2 ^ k) * 2 ^ (64 - k) = X at *
  generalize l1 / 2 ^ k = Y at *
  generalize h1 / 2 ^ k = Z at *
  clear h3 h4 h5 h7 e hp hq
  refine ⟨by omega, by omega, by omega⟩
theorem down_far (h1 l1 k : Nat) (hh : h1 ≤ 18446744073709551615) (hl : l1 ≤ 18446744073709551615) (hk : 64 ≤ k) :
    Tw ((h1 * 18446744073709551616 + l1) / 2 ^ k) 0 (h1 >>> (k - 64)) := by
  have e : 2 ^ k = 2 ^ 64 * 2 ^ (k - 64) := by rw [← Nat.pow_add]; congr 1; omega
  rw [e, ← Nat.div_div_eq_div_mul, Nat.shiftRight_eq_div_pow, show (h1 * 18446744073709551616 + l1) / 2 ^ 64 = h1 by omega]
  have := Nat.div_le_self h1 (2 ^ (k - 64))
  refine ⟨by omega, by omega, by omega⟩

theorem shl_min (x i : Nat) : (x <<< i) % 2 ^ 64 = (x <<< (min i 64)) % 2 ^ 64 := by
  by_cases h : i ≤ 64
  · rw [Nat.min_eq_left h]
  · rw [Nat.min_eq_right (by omega), Nat.shiftLeft_eq, Nat.shiftLeft_eq, Nat.mul_mod_left, show 2 ^ i = 2 ^ (i - 64) * 2 ^ 64 by rw [← Nat.pow_add]; congr 1; omega, ← Nat.mul_assoc, Nat.mul_mod_left]
theorem shr_min (x i : Nat) (hx : x ≤ 18446744073709551615) : x >>> i = x >>> (min i 64) := by
  by_cases h : i ≤ 64
  · rw [Nat.min_eq_left h]
  · have h1 : 2 ^ 64 ≤ 2 ^ i := Nat.pow_le_pow_right (by decide) (by omega)
    rw [Nat.min_eq_right (by omega), Nat.shiftRight_eq_div_pow, Nat.shiftRight_eq_div_pow, Nat.div_eq_of_lt (by omega), Nat.div_eq_of_lt (by omega)]
theorem Tw.one {n h l h' l' : Nat} (a : Tw n h l) (b : Tw n h' l') : h = h' ∧ l = l' := by
  obtain ⟨e, a1, a2⟩ := a
  obtain ⟨e', b1, b2⟩ := b
  omega
set_option maxHeartbeats 1000000 in
theorem up_any {a h1 l1 h l : Nat} (k : Nat) (hk : k ≤ 9223372036854775807) (ha : Tw a h1 l1) (hs : Tw ((a * 2 ^ k) % 340282366920938463463374607431768211456) h l) (w : World) :
    Calls Try.prog 71 #[.agg #[.int .u64 h1, .int .u64 l1], .int .i64 k] w fun e w' => e = .returned (.agg #[.int .u64 h, .int .u64 l]) ∧ Below w.heap.size w w' := by
  refine cps fun Q hQ => ?_
  obtain ⟨ea, hh, hl⟩ := ha
  rw [ea] at hs
  by_cases h64 : 64 ≤ k
  · obtain ⟨e1, e2⟩ := hs.one (up_far h1 l1 k h64)
    obtain ⟨i, rfl⟩ : ∃ i, k = 64 + i := ⟨k - 64, by omega⟩
    rw [show 64 + i - 64 = i by omega] at e1
    have hv := wrapShl l1 (min i 64)
    rw [← shl_min, ← e1] at hv
    subst e2
    have hki : ((64 + i : Nat) : Int) - 64 = i := by omega
    clear hs e1 ea
    have hk64 : (64 : Int) ≤ ((64 + i : Nat) : Int) := by omega
    generalize ((64 + i : Nat) : Int) = K at *
    go_enter Try.func71, Try.ntmps71
    go_wp2
    refine bodyPost_ret (v := .agg #[.int .u64 h, .int .u64 0]) (by simp [results, Try.results71, go_sem]) rfl (hQ.out _ _ ⟨rfl, ?_⟩)
    exact bmore (bmore (Below.refl _ _) _) _
  · obtain ⟨e1, e2⟩ := hs.one (up_near h1 l1 k hh hl (by omega))
    have v1 := wrapShl h1 k
    have v2 := wrapShl l1 k
    have v3 := shrN l1 (64 - k)
    have v4 := u64_or_nat ((h1 <<< k) % 2 ^ 64) (l1 >>> (64 - k)) (Nat.mod_lt _ (by decide)) (Nat.lt_of_le_of_lt (Nat.shiftRight_le _ _) (by omega))
    rw [← e1] at v4
    rw [← e2] at v2
    have hk1 : k < 64 := by omega
    have hq : (64 : Int) - k = ((64 - k : Nat) : Int) := by omega
    clear hs e1 e2 ea h64
    generalize 64 - k = j at *
    generalize l1 >>> j = x at *
    generalize h1 <<< k % 2 ^ 64 = y at *
    go_enter Try.func71, Try.ntmps71
    go_wp2
    go_region
    all_goals
      go_wp2
      refine bodyPost_ret (v := .agg #[.int .u64 h, .int .u64 l]) (by simp [results, Try.results71, go_sem]) rfl (hQ.out _ _ ⟨rfl, ?_⟩)
      exact (bmore (bmore (Below.refl _ _) _) _).drew
set_option maxHeartbeats 1000000 in
theorem down_any {a h1 l1 h l : Nat} (k : Nat) (hk : k ≤ 9223372036854775807) (ha : Tw a h1 l1) (hs : Tw (a / 2 ^ k) h l) (w : World) :
    Calls Try.prog 70 #[.agg #[.int .u64 h1, .int .u64 l1], .int .i64 k] w fun e w' => e = .returned (.agg #[.int .u64 h, .int .u64 l]) ∧ Below w.heap.size w w' := by
  refine cps fun Q hQ => ?_
  obtain ⟨ea, hh, hl⟩ := ha
  rw [ea] at hs
  by_cases h64 : 64 ≤ k
  · obtain ⟨e1, e2⟩ := hs.one (down_far h1 l1 k hh hl h64)
    obtain ⟨i, rfl⟩ : ∃ i, k = 64 + i := ⟨k - 64, by omega⟩
    rw [show 64 + i - 64 = i by omega] at e2
    have hv := shrN h1 (min i 64)
    rw [← shr_min _ _ hh, ← e2] at hv
    subst e1
    have hki : ((64 + i : Nat) : Int) - 64 = i := by omega
    clear hs e2 ea
    have hk64 : (64 : Int) ≤ ((64 + i : Nat) : Int) := by omega
    generalize ((64 + i : Nat) : Int) = K at *
    go_enter Try.func70, Try.ntmps70
    go_wp2
    refine bodyPost_ret (v := .agg #[.int .u64 0, .int .u64 l]) (by simp [results, Try.results70, go_sem]) rfl (hQ.out _ _ ⟨rfl, ?_⟩)
    exact bmore (bmore (Below.refl _ _) _) _
  · obtain ⟨e1, e2⟩ := hs.one (down_near h1 l1 k hh hl (by omega))
    have v1 := shrN h1 k
    have v2 := shrN l1 k
    have v3 := wrapShl h1 (64 - k)
    have v4 := u64_or_nat (l1 >>> k) ((h1 <<< (64 - k)) % 2 ^ 64) (Nat.lt_of_le_of_lt (Nat.shiftRight_le _ _) (by omega)) (Nat.mod_lt _ (by decide))
    rw [← e2] at v4
    rw [← e1] at v1
    have hk1 : k < 64 := by omega
    have hq : (64 : Int) - k = ((64 - k : Nat) : Int) := by omega
    clear hs e1 e2 ea h64
    generalize 64 - k = j at *
    generalize l1 >>> k = x at *
    generalize h1 <<< j % 2 ^ 64 = y at *
    go_enter Try.func70, Try.ntmps70
    go_wp2
    go_region
    all_goals
      go_wp2
      refine bodyPost_ret (v := .agg #[.int .u64 h, .int .u64 l]) (by simp [results, Try.results70, go_sem]) rfl (hQ.out _ _ ⟨rfl, ?_⟩)
      exact (bmore (bmore (Below.refl _ _) _) _).drew
end Go.Proofs.Ytheliihkkoohnab

namespace Go.Proofs.Ytheliihkkoohnab
set_option maxRecDepth 100000
open Go.ChangeShapes Go.WideShapes Go.ChangeAt Go.RowKit
set_option linter.unusedVariables false

set_option maxHeartbeats 1000000 in
theorem tshl_any {a h1 l1 h l : Nat} {c : Bool} (k : Nat) (hk : k ≤ 9223372036854775807) (ha : Tw a h1 l1) (hs : Tw ((a * 2 ^ k) % 340282366920938463463374607431768211456) h l) (hc : c = decide (340282366920938463463374607431768211456 ≤ a * 2 ^ k)) (w : World) :
    Calls Try.prog 62 #[.agg #[.int .u64 h1, .int .u64 l1], .int .i64 k] w fun e w' => e = .returned (.tuple #[.agg #[.int .u64 h, .int .u64 l], .bool c, .nilIface]) ∧ Below w.heap.size w w' := by
  refine cps fun Q hQ => ?_
  have k1 := fun w => up_any k hk ha hs w
  obtain ⟨T, hT⟩ : ∃ T, T = (a * 2 ^ k) % 340282366920938463463374607431768211456 / 2 ^ k := ⟨_, rfl⟩
  have hTlt : T < 340282366920938463463374607431768211456 := by rw [hT]; exact Nat.lt_of_le_of_lt (Nat.div_le_self _ _) (Nat.mod_lt _ (by decide))
  have hq : (!decide (T = a)) = decide (340282366920938463463374607431768211456 ≤ a * 2 ^ k) := by
    have hp : 0 < 2 ^ k := Nat.pow_pos (by decide)
    by_cases h0 : 340282366920938463463374607431768211456 ≤ a * 2 ^ k
    · have : T ≠ a := by
        intro h1
        rw [hT] at h1
        have h2 := Nat.div_mul_le_self ((a * 2 ^ k) % 340282366920938463463374607431768211456) (2 ^ k)
        rw [h1] at h2
        have h3 := Nat.mod_lt (a * 2 ^ k) (show 0 < 340282366920938463463374607431768211456 by decide)
        omega
      simp [this, h0]
    · have : T = a := by rw [hT, Nat.mod_eq_of_lt (by omega), Nat.mul_div_cancel _ hp]
      simp [this, h0]
  obtain ⟨h3, l3, ht⟩ : ∃ h3 l3, Tw T h3 l3 := ⟨T / 18446744073709551616, T % 18446744073709551616, by omega, by omega, by omega⟩
  have hTT : Tw ((a * 2 ^ k) % 340282366920938463463374607431768211456 / 2 ^ k) h3 l3 := hT ▸ ht
  have k2 := fun w => down_any k hk hs hTT w
  have hc2 : c = !(decide (h3 = h1) && decide (l3 = l1)) := by
    rw [hc, ← hq]
    by_cases hh : h3 = h1 ∧ l3 = l1
    · rw [hh.1, hh.2] at ht ⊢
      simp
      have := ht.eq.trans ha.eq.symm
      exact this
    · have : ¬ T = a := fun h => hh (by rw [h] at ht; exact ht.one ha)
      rw [decide_eq_false this]
      by_cases h5 : h3 = h1
      · have : l3 ≠ l1 := fun h6 => hh ⟨h5, h6⟩
        simp [this]
      · simp [h5]
  have hcase : (h1 = h3 ∧ l1 = l3 ∧ c = false) ∨ (h1 = h3 ∧ ¬ (l3 : Int) = l1 ∧ c = true) ∨ (¬ (h3 : Int) = h1 ∧ c = true) := by
    by_cases g1 : h3 = h1
    · by_cases g2 : l3 = l1
      · exact .inl ⟨g1.symm, g2.symm, by rw [hc2]; simp [g1, g2]⟩
      · exact .inr (.inl ⟨g1.symm, by omega, by rw [hc2]; simp [g2]⟩)
    · exact .inr (.inr ⟨by omega, by rw [hc2]; simp [g1]⟩)
  clear hc hc2 ht hs ha hq hTT hT hTlt
  rcases hcase with ⟨rfl, rfl, rfl⟩ | ⟨rfl, g2, rfl⟩ | ⟨g1, rfl⟩
  all_goals
    go_enter Try.func62, Try.ntmps62
    go_wp2_with (go_at_call 71; refine (k1 _).mono ?_; rintro e w1 ⟨rfl, hb1⟩; obtain ⟨hc1, hf1⟩ := bcell hb1; have hz : w.heap.size + 1 < w1.heap.size := by have := hb1.size; simp at this; omega)
    have hz0 : w.heap.size < w1.heap.size := by omega
    refine wpC_region (fun W => W.cell? ⟨w.heap.size, 0, none⟩ = some (.int .u64 h1) ∧ W.cell? ⟨w.heap.size, 1, none⟩ = some (.int .u64 l1) ∧ W.cell? ⟨w1.heap.size, 0, none⟩ = some (.int .u64 h) ∧ W.cell? ⟨w1.heap.size, 1, none⟩ = some (.int .u64 l)) (by kernel_rfl) ?_
    refine wpC_take 0 (v := ?_) rfl (by kernel_rfl) (fun _ _ _ h => h) (by kernel_rfl) ?_ ?_; rotate_left; · (intro wC hC; obtain ⟨c1, c2, c3, c4⟩ := hC; go_simp <;> with_reducible rfl)
    refine wpC_take 1 (v := ?_) rfl (by kernel_rfl) (fun _ _ _ h => h) (by kernel_rfl) ?_ ?_; rotate_left; · (intro wC hC; obtain ⟨c1, c2, c3, c4⟩ := hC; go_simp <;> with_reducible rfl)
    refine wpC_take 2 (v := ?_) rfl (by kernel_rfl) (fun _ _ _ h => h) (by kernel_rfl) ?_ ?_; rotate_left; · (intro wC hC; obtain ⟨c1, c2, c3, c4⟩ := hC; go_simp <;> with_reducible rfl)
    refine wpC_take 4 (v := ?_) rfl (by kernel_rfl) (fun _ _ _ h => h) (by kernel_rfl) ?_ ?_; rotate_left; · (intro wC hC; obtain ⟨c1, c2, c3, c4⟩ := hC; go_simp <;> with_reducible rfl)
    refine wpC_step 3 rfl (by kernel_rfl) (by kernel_rfl) (by simp [go_sem, hc1, hz0]) (fun K hK => ?_)
    go_simp
    go_wp2_with ((go_at_call 70; refine (k2 _).mono ?_; rintro e w2 ⟨rfl, hb2⟩; obtain ⟨hc2, hf2⟩ := bcell hb2; have hz2 : w1.heap.size < w2.heap.size := by have := hb2.size; simp at this; omega))
    try (refine hK _ _ ?_; clear hK K)
    refine wpC_take 5 (v := ?_) rfl (by kernel_rfl) (fun _ _ _ h => h) (by kernel_rfl) ?_ ?_; rotate_left; · (intro wC hC; obtain ⟨c1, c2, c3, c4⟩ := hC; go_simp <;> with_reducible rfl)
    refine wpC_step 6 rfl (by kernel_rfl) (by kernel_rfl) (by simp [go_sem, hc1, hc2, hz0]) (fun K hK => ?_)
    go_simp
    try (refine hK _ _ ?_; clear hK K)
    refine wpC_step 7 rfl (by kernel_rfl) (by kernel_rfl) (by simp [go_sem, hc1, hc2, hz0]) (fun K hK => ?_)
    go_simp
    try (refine hK _ _ ?_; clear hK K)
    refine wpC_step 8 rfl (by kernel_rfl) (by kernel_rfl) (by simp [go_sem, hc1, hc2, hz0]) (fun K hK => ?_)
    go_simp
    try (refine hK _ _ ?_; clear hK K)
    refine wpC_done (by kernel_rfl) (by simp [go_sem, hc1, hc2, hz0]) ?_
    go_wp2
    refine bodyPost_ret (v := .tuple #[.agg #[.int .u64 h, .int .u64 l], .bool _, .nilIface]) (by simp [results, Try.results62, go_sem, hc1, hc2, hz, hz0]) rfl (hQ.out _ _ ⟨rfl, ?_⟩)
    exact bset (bset (bthen (bdrew (bmore (bthen (bmore (bmore (Below.refl _ _) _) _) hb1) _)) hb2) (by omega) _ _) (by omega) _ _

set_option maxHeartbeats 1000000 in
theorem tshr_any {a h1 l1 h l : Nat} {c : Bool} (k : Nat) (hk : k ≤ 9223372036854775807) (ha : Tw a h1 l1) (hs : Tw (a / 2 ^ k) h l) (hc : c = decide (a % 2 ^ k ≠ 0)) (w : World) :
    Calls Try.prog 49 #[.agg #[.int .u64 h1, .int .u64 l1], .int .i64 k] w fun e w' => e = .returned (.tuple #[.agg #[.int .u64 h, .int .u64 l], .bool c, .nilIface]) ∧ Below w.heap.size w w' := by
  refine cps fun Q hQ => ?_
  have k1 := fun w => down_any k hk ha hs w
  obtain ⟨T, hT⟩ : ∃ T, T = (a / 2 ^ k * 2 ^ k) % 340282366920938463463374607431768211456 := ⟨_, rfl⟩
  have hTlt : T < 340282366920938463463374607431768211456 := by rw [hT]; exact Nat.mod_lt _ (by decide)
  have hq : (!decide (T = a)) = decide (a % 2 ^ k ≠ 0) := by
    have h1 := Nat.div_add_mod a (2 ^ k)
    have h2 := ha.lt
    rw [Nat.mul_comm] at h1
    have h3 : T = a / 2 ^ k * 2 ^ k := by rw [hT, Nat.mod_eq_of_lt (by omega)]
    rw [← h3] at h1
    by_cases h0 : a % 2 ^ k = 0
    · have : T = a := by omega
      simp [this, h0]
    · have : T ≠ a := by omega
      simp [this, h0]
  obtain ⟨h3, l3, ht⟩ : ∃ h3 l3, Tw T h3 l3 := ⟨T / 18446744073709551616, T % 18446744073709551616, by omega, by omega, by omega⟩
  have hTT : Tw ((a / 2 ^ k * 2 ^ k) % 340282366920938463463374607431768211456) h3 l3 := hT ▸ ht
  have k2 := fun w => up_any k hk hs hTT w
  have hc2 : c = !(decide (h3 = h1) && decide (l3 = l1)) := by
    rw [hc, ← hq]
    by_cases hh : h3 = h1 ∧ l3 = l1
    · rw [hh.1, hh.2] at ht ⊢
      simp
      have := ht.eq.trans ha.eq.symm
      exact this
    · have : ¬ T = a := fun h => hh (by rw [h] at ht; exact ht.one ha)
      rw [decide_eq_false this]
      by_cases h5 : h3 = h1
      · have : l3 ≠ l1 := fun h6 => hh ⟨h5, h6⟩
        simp [this]
      · simp [h5]
  have hcase : (h1 = h3 ∧ l1 = l3 ∧ c = false) ∨ (h1 = h3 ∧ ¬ (l3 : Int) = l1 ∧ c = true) ∨ (¬ (h3 : Int) = h1 ∧ c = true) := by
    by_cases g1 : h3 = h1
    · by_cases g2 : l3 = l1
      · exact .inl ⟨g1.symm, g2.symm, by rw [hc2]; simp [g1, g2]⟩
      · exact .inr (.inl ⟨g1.symm, by omega, by rw [hc2]; simp [g2]⟩)
    · exact .inr (.inr ⟨by omega, by rw [hc2]; simp [g1]⟩)
  clear hc hc2 ht hs ha hq hTT hT hTlt
  rcases hcase with ⟨rfl, rfl, rfl⟩ | ⟨rfl, g2, rfl⟩ | ⟨g1, rfl⟩
  all_goals
    go_enter Try.func49, Try.ntmps49
    go_wp2_with (go_at_call 70; refine (k1 _).mono ?_; rintro e w1 ⟨rfl, hb1⟩; obtain ⟨hc1, hf1⟩ := bcell hb1; have hz : w.heap.size + 1 < w1.heap.size := by have := hb1.size; simp at this; omega)
    have hz0 : w.heap.size < w1.heap.size := by omega
    refine wpC_region (fun W => W.cell? ⟨w.heap.size, 0, none⟩ = some (.int .u64 h1) ∧ W.cell? ⟨w.heap.size, 1, none⟩ = some (.int .u64 l1) ∧ W.cell? ⟨w1.heap.size, 0, none⟩ = some (.int .u64 h) ∧ W.cell? ⟨w1.heap.size, 1, none⟩ = some (.int .u64 l)) (by kernel_rfl) ?_
    refine wpC_take 0 (v := ?_) rfl (by kernel_rfl) (fun _ _ _ h => h) (by kernel_rfl) ?_ ?_; rotate_left; · (intro wC hC; obtain ⟨c1, c2, c3, c4⟩ := hC; go_simp <;> with_reducible rfl)
    refine wpC_take 1 (v := ?_) rfl (by kernel_rfl) (fun _ _ _ h => h) (by kernel_rfl) ?_ ?_; rotate_left; · (intro wC hC; obtain ⟨c1, c2, c3, c4⟩ := hC; go_simp <;> with_reducible rfl)
    refine wpC_take 2 (v := ?_) rfl (by kernel_rfl) (fun _ _ _ h => h) (by kernel_rfl) ?_ ?_; rotate_left; · (intro wC hC; obtain ⟨c1, c2, c3, c4⟩ := hC; go_simp <;> with_reducible rfl)
    refine wpC_take 4 (v := ?_) rfl (by kernel_rfl) (fun _ _ _ h => h) (by kernel_rfl) ?_ ?_; rotate_left; · (intro wC hC; obtain ⟨c1, c2, c3, c4⟩ := hC; go_simp <;> with_reducible rfl)
    refine wpC_step 3 rfl (by kernel_rfl) (by kernel_rfl) (by simp [go_sem, hc1, hz0]) (fun K hK => ?_)
    go_simp
    go_wp2_with ((go_at_call 71; refine (k2 _).mono ?_; rintro e w2 ⟨rfl, hb2⟩; obtain ⟨hc2, hf2⟩ := bcell hb2; have hz2 : w1.heap.size < w2.heap.size := by have := hb2.size; simp at this; omega))
    try (refine hK _ _ ?_; clear hK K)
    refine wpC_take 5 (v := ?_) rfl (by kernel_rfl) (fun _ _ _ h => h) (by kernel_rfl) ?_ ?_; rotate_left; · (intro wC hC; obtain ⟨c1, c2, c3, c4⟩ := hC; go_simp <;> with_reducible rfl)
    refine wpC_step 6 rfl (by kernel_rfl) (by kernel_rfl) (by simp [go_sem, hc1, hc2, hz0]) (fun K hK => ?_)
    go_simp
    try (refine hK _ _ ?_; clear hK K)
    refine wpC_step 7 rfl (by kernel_rfl) (by kernel_rfl) (by simp [go_sem, hc1, hc2, hz0]) (fun K hK => ?_)
    go_simp
    try (refine hK _ _ ?_; clear hK K)
    refine wpC_step 8 rfl (by kernel_rfl) (by kernel_rfl) (by simp [go_sem, hc1, hc2, hz0]) (fun K hK => ?_)
    go_simp
    try (refine hK _ _ ?_; clear hK K)
    refine wpC_done (by kernel_rfl) (by simp [go_sem, hc1, hc2, hz0]) ?_
    go_wp2
    refine bodyPost_ret (v := .tuple #[.agg #[.int .u64 h, .int .u64 l], .bool _, .nilIface]) (by simp [results, Try.results49, go_sem, hc1, hc2, hz, hz0]) rfl (hQ.out _ _ ⟨rfl, ?_⟩)
    exact bset (bset (bthen (bdrew (bmore (bthen (bmore (bmore (Below.refl _ _) _) _) hb1) _)) hb2) (by omega) _ _) (by omega) _ _
end Go.Proofs.Ytheliihkkoohnab

namespace Go.Proofs.Ytheliihkkoohnab
open Go.ChangeShapes Go.WideShapes Go.ChangeAt Go.RowKit
set_option linter.unusedVariables false
set_option maxRecDepth 100000

/-- what the lowest k digits are -/
def lo (a k : Nat) : Nat := val (low a k)
theorem lo_zero (a : Nat) : lo a 0 = 0 := rfl
theorem lo_succ (a k : Nat) : lo a (k + 1) = lo a k + 16777216 ^ k * (top a k % 16777216) := by
  unfold lo; rw [low_snoc, val_append, low_length]; simp [val]
theorem lo_all (a : Nat) : lo a (dlen a) = a := by unfold lo; rw [low_dlen, val_dig]
theorem val_set (l : List Nat) (j d : Nat) (h : j < l.length) : val (l.set j d) + 16777216 ^ j * l.getD j 0 = val l + 16777216 ^ j * d := by
  induction l generalizing j with
  | nil => simp at h
  | cons x l ih =>
    cases j with
    | zero => simp [val_cons]; omega
    | succ j =>
      have := ih j (by simpa using h)
      simp only [List.set_cons_succ, val_cons, List.getD_cons_succ, Nat.pow_succ]
      have e1 : 16777216 ^ j * 16777216 * l.getD j 0 = 16777216 * (16777216 ^ j * l.getD j 0) := by rw [Nat.mul_comm (16777216 ^ j) 16777216, Nat.mul_assoc]
      have e2 : 16777216 ^ j * 16777216 * d = 16777216 * (16777216 ^ j * d) := by rw [Nat.mul_comm (16777216 ^ j) 16777216, Nat.mul_assoc]
      rw [e1, e2]; omega
theorem getD_set (l : List Nat) (j d i : Nat) (h : j < l.length) : (l.set j d).getD i 0 = if j = i then d else l.getD i 0 := by
  rw [List.getD_eq_getElem?_getD, List.getElem?_set]
  by_cases e : j = i
  · subst e; simp [h]
  · simp [e]
theorem mul_step {V V' O c t P p R : Nat} (h1 : V + P * c = R) (h2 : V' + P * O = V + P * (t % 16777216)) (ht : t = O + p + c) : V' + P * 16777216 * (t / 16777216) = R + P * p := by
  have e1 : P * t = P * 16777216 * (t / 16777216) + P * (t % 16777216) := by
    conv => lhs; rw [← Nat.div_add_mod t 16777216]
    rw [Nat.mul_add, Nat.mul_assoc]
  have e2 : P * t = P * O + P * p + P * c := by rw [ht, Nat.mul_add, Nat.mul_add]
  omega
/-- the row of a product under way -/
structure MulAt (a b i k c : Nat) (O : List Nat) : Prop where
  len : O.length = dlen a + dlen b
  digs : ∀ d ∈ O, d < 16777216
  sum : val O + 16777216 ^ (i + k) * c = lo a i * b + 16777216 ^ i * ((top a i % 16777216) * lo b k)
  up : ∀ j, i + dlen b ≤ j → O.getD j 0 = 0
theorem MulAt.step {a b i k c x t : Nat} {O : List Nat} (h : MulAt a b i k c O) (hi : i < dlen a) (hk : k < dlen b) (hx : x = O.getD (i + k) 0) (ht : t = x + (top a i % 16777216) * (top b k % 16777216) + c) :
    MulAt a b i (k + 1) (t / 16777216) (O.set (i + k) (t % 16777216)) := by
  have hl := h.len
  refine ⟨by simp [hl], ?_, ?_, ?_⟩
  · intro d hd
    rcases List.mem_or_eq_of_mem_set hd with h1 | h1
    · exact h.digs d h1
    · omega
  · have h2 := val_set O (i + k) (t % 16777216) (by omega)
    rw [← hx] at h2
    have h3 := mul_step h.sum h2 ht
    rw [show i + (k + 1) = (i + k) + 1 by omega, Nat.pow_succ, h3, lo_succ, Nat.mul_add, Nat.mul_add, Nat.add_assoc, Nat.pow_add, Nat.mul_assoc, Nat.mul_left_comm (top a i % 16777216)]
  · intro j hj
    rw [getD_set _ _ _ _ (by omega), if_neg (by omega)]
    exact h.up j hj
theorem MulAt.next {a b i c : Nat} {O : List Nat} (h : MulAt a b i (dlen b) c O) (hi : i < dlen a) (hc : c < 16777216) : MulAt a b (i + 1) 0 0 (O.set (i + dlen b) c) := by
  have hl := h.len
  refine ⟨by simp [hl], ?_, ?_, ?_⟩
  · intro d hd
    rcases List.mem_or_eq_of_mem_set hd with h1 | h1
    · exact h.digs d h1
    · omega
  · have h2 := val_set O (i + dlen b) c (by omega)
    rw [h.up _ (Nat.le_refl _), Nat.mul_zero, Nat.add_zero, h.sum, lo_all] at h2
    rw [h2, lo_zero, lo_succ, Nat.mul_zero, Nat.mul_zero, Nat.mul_zero, Nat.add_zero, Nat.add_zero, Nat.add_mul, Nat.mul_assoc]
  · intro j hj
    rw [getD_set _ _ _ _ (by omega), if_neg (by omega)]
    exact h.up j (by omega)
theorem MulAt.done {a b : Nat} {O : List Nat} (h : MulAt a b (dlen a) 0 0 O) : ∃ z, O = dig (a * b) ++ List.replicate z 0 := by
  have hs := h.sum
  rw [lo_zero, lo_all, Nat.mul_zero, Nat.mul_zero, Nat.mul_zero, Nat.add_zero, Nat.add_zero] at hs
  have hv := val_low O h.digs
  have hlt := val_lt O h.digs
  rw [hs] at hv hlt
  exact ⟨_, by rw [← low_ge (dlen_le_of_lt hlt), hv]⟩

end Go.Proofs.Ytheliihkkoohnab

namespace Go.Proofs.Ytheliihkkoohnab
set_option maxRecDepth 100000
open Go.ChangeShapes Go.WideShapes Go.ChangeAt Go.RowKit
set_option linter.unusedVariables false

theorem Row.alloc {w : World} {v : Value} {l : List Nat} (h : Row w v l) (o : Obj) : Row (w.alloc o) v l := h.below (bmore (Below.refl _ _) _)
end Go.Proofs.Ytheliihkkoohnab

namespace Go.Proofs.Ytheliihkkoohnab
set_option maxRecDepth 100000
open Go.ChangeShapes Go.WideShapes Go.ChangeAt Go.RowKit
set_option linter.unusedVariables false

/-! ### shifts -/
end Go.Proofs.Ytheliihkkoohnab

namespace Go.Proofs.Ytheliihkkoohnab
set_option maxRecDepth 100000
open Go.ChangeShapes Go.WideShapes Go.ChangeAt Go.RowKit
set_option linter.unusedVariables false

theorem tnorm_zero (w : World) :
    Calls Try.prog 51 #[.agg #[.int .u64 0, .int .u64 0]] w fun e w' => e = .returned (.tuple #[.agg #[.int .u64 0, .int .u64 0], .int .i64 0]) ∧ Below w.heap.size w w' := by
  refine cps fun Q hQ => ?_
  go_enter Try.func51, Try.ntmps51
  go_wp2
  refine bodyPost_ret (v := .tuple #[.agg #[.int .u64 0, .int .u64 0], .int .i64 0]) (by simp [results, Try.results51, go_sem]) rfl (hQ.out _ _ ⟨rfl, ?_⟩)
  exact bmore (bmore (Below.refl _ _) _) _
set_option maxHeartbeats 1000000 in
theorem tnorm_any {a h1 l1 h l k : Nat} (ha : Tw a h1 l1) (h0 : a ≠ 0) (hk : k + blen a = 128) (hs : Tw ((a * 2 ^ k) % 340282366920938463463374607431768211456) h l) (w : World) :
    Calls Try.prog 51 #[.agg #[.int .u64 h1, .int .u64 l1]] w fun e w' => e = .returned (.tuple #[.agg #[.int .u64 h, .int .u64 l], .int .i64 k]) ∧ Below w.heap.size w w' := by
  refine cps fun Q hQ => ?_
  have k1 := fun w => tlen_any ha w
  have k2 := fun w => up_any k (by omega) ha hs w
  have hne : (¬ (h1 : Int) = 0) ∨ (h1 = 0 ∧ ¬ (l1 : Int) = 0) := by have := ha.eq; omega
  clear ha hs h0
  generalize blen a = L at *
  have hkk : (128 : Int) - L = k := by omega
  have hL : L ≤ 128 := by omega
  clear hk
  rcases hne with hne | ⟨rfl, hne⟩
  all_goals
    go_enter Try.func51, Try.ntmps51
    go_wp2_with (first
      | (go_at_call 73; refine (k1 _).mono ?_; rintro e w1 ⟨rfl, hb1⟩; obtain ⟨hc1, hf1⟩ := bcell hb1)
      | (go_at_call 71; refine (k2 _).mono ?_; rintro e w2 ⟨rfl, hb2⟩; have hb12 := bthen hb1 hb2; obtain ⟨hc2, hf2⟩ := bcell hb12))
    refine bodyPost_ret (v := .tuple #[.agg #[.int .u64 h, .int .u64 l], .int .i64 k]) (by simp [results, Try.results51, go_sem, hc2]) rfl (hQ.out _ _ ⟨rfl, ?_⟩)
    exact bset (bset (bthen (bmore (bmore (Below.refl _ _) _) _) hb12) (by omega) _ _) (by omega) _ _
end Go.Proofs.Ytheliihkkoohnab

namespace Go.Proofs.Ytheliihkkoohnab
set_option maxRecDepth 100000
open Go.ChangeShapes Go.WideShapes Go.ChangeAt Go.RowKit
set_option linter.unusedVariables false

set_option maxHeartbeats 2000000 in
theorem tcmp_any {a b h1 l1 h2 l2 : Nat} (ha : Tw a h1 l1) (hb : Tw b h2 l2) (w : World) :
    Calls Try.prog 61 #[.agg #[.int .u64 h1, .int .u64 l1], .agg #[.int .u64 h2, .int .u64 l2]] w fun e w' => e = .returned (.int .i64 (cmpN a b)) ∧ Below w.heap.size w w' := by
  refine cps fun Q hQ => ?_
  rw [← cmp_words ha hb] at hQ
  clear ha hb
  obtain ⟨x, hx⟩ : ∃ x, x = cmpN h1 h2 := ⟨_, rfl⟩
  obtain ⟨y, hy⟩ : ∃ x, x = cmpN l1 l2 := ⟨_, rfl⟩
  have r1 := compare_any h1 h2
  have r2 := compare_any l1 l2
  rw [← hx] at r1 hQ
  rw [← hy] at r2 hQ
  obtain ⟨z, hz⟩ : ∃ z, z = if x = 0 then y else x := ⟨_, rfl⟩
  rw [← hz] at hQ
  have HZ : Hid (z = if x = 0 then y else x) := hz
  clear hx hy hz
  go_enter Try.func61, Try.ntmps61
  go_wp2
  refine wpC_region (fun W => W.cell? ⟨w.heap.size, 0, none⟩ = some (.int .u64 h1) ∧ W.cell? ⟨w.heap.size, 1, none⟩ = some (.int .u64 l1) ∧ W.cell? ⟨w.heap.size + 1, 0, none⟩ = some (.int .u64 h2) ∧ W.cell? ⟨w.heap.size + 1, 1, none⟩ = some (.int .u64 l2)) (by kernel_rfl) ?_
  refine wpC_take 0 (v := ?_) rfl (by kernel_rfl) (fun _ _ _ h => h) (by kernel_rfl) ?_ ?_; rotate_left; · (intro wC hC; obtain ⟨c1, c2, c3, c4⟩ := hC; go_simp <;> with_reducible rfl)
  refine wpC_take 1 (v := ?_) rfl (by kernel_rfl) (fun _ _ _ h => h) (by kernel_rfl) ?_ ?_; rotate_left; · (intro wC hC; obtain ⟨c1, c2, c3, c4⟩ := hC; go_simp <;> with_reducible rfl)
  refine wpC_take 2 (v := ?_) rfl (by kernel_rfl) (fun _ _ _ h => h) (by kernel_rfl) ?_ ?_; rotate_left; · (intro wC hC; obtain ⟨c1, c2, c3, c4⟩ := hC; go_simp <;> with_reducible rfl)
  refine wpC_take 3 (v := ?_) rfl (by kernel_rfl) (fun _ _ _ h => h) (by kernel_rfl) ?_ ?_; rotate_left; · (intro wC hC; obtain ⟨c1, c2, c3, c4⟩ := hC; go_simp <;> with_reducible rfl)
  refine wpC_take 5 (v := ?_) rfl (by kernel_rfl) (fun _ _ _ h => h) (by kernel_rfl) ?_ ?_; rotate_left; · (intro wC hC; obtain ⟨c1, c2, c3, c4⟩ := hC; go_simp <;> with_reducible rfl)
  refine wpC_take 6 (v := ?_) rfl (by kernel_rfl) (fun _ _ _ h => h) (by kernel_rfl) ?_ ?_; rotate_left; · (intro wC hC; obtain ⟨c1, c2, c3, c4⟩ := hC; go_simp <;> with_reducible rfl)
  refine wpC_take 7 (v := ?_) rfl (by kernel_rfl) (fun _ _ _ h => h) (by kernel_rfl) ?_ ?_; rotate_left; · (intro wC hC; obtain ⟨c1, c2, c3, c4⟩ := hC; go_simp <;> with_reducible rfl)
  refine wpC_take 8 (v := ?_) rfl (by kernel_rfl) (fun _ _ _ h => h) (by kernel_rfl) ?_ ?_; rotate_left; · (intro wC hC; obtain ⟨c1, c2, c3, c4⟩ := hC; go_simp <;> with_reducible rfl)
  refine wpC_step 4 rfl (by kernel_rfl) (by kernel_rfl) (by simp [go_sem]) (fun K hK => ?_)
  go_simp
  go_wp2_with ((go_at_call_of 81 h1; refine (r1 _).mono ?_; rintro e w' ⟨rfl, hw⟩; rw [hw]; clear hw w'))
  try (refine hK _ _ ?_; clear hK K)
  refine wpC_step 9 rfl (by kernel_rfl) (by kernel_rfl) (by simp [go_sem]) (fun K hK => ?_)
  go_simp
  go_wp2_with ((go_at_call_of 81 l1; refine (r2 _).mono ?_; rintro e w' ⟨rfl, hw⟩; rw [hw]; clear hw w'))
  try (refine hK _ _ ?_; clear hK K)
  refine wpC_step 10 rfl (by kernel_rfl) (by kernel_rfl) (by simp [go_sem]) (fun K hK => ?_)
  go_simp
  try (refine hK _ _ ?_; clear hK K)
  refine wpC_step 11 rfl (by kernel_rfl) (by kernel_rfl) (by simp [go_sem]) (fun K hK => ?_)
  go_simp
  go_wp2_with ((go_at_call 59; refine (or_any' x y z HZ.out _ _ (drew_at _ _ _ _ 0 (by simp)) (drew_at _ _ _ _ 1 (by simp))).mono ?_; rintro e w' ⟨rfl, hw⟩; rw [hw]; clear hw w'))
  try (refine hK _ _ ?_; clear hK K)
  refine wpC_step 12 rfl (by kernel_rfl) (by kernel_rfl) (by simp [go_sem]) (fun K hK => ?_)
  go_simp
  try (refine hK _ _ ?_; clear hK K)
  refine wpC_done (by kernel_rfl) (by simp [go_sem]) ?_
  go_wp2
  refine hQ.out _ _ ⟨rfl, ?_⟩
  exact (bmore (bmore (bmore (Below.refl _ _) _) _) _).drew
end Go.Proofs.Ytheliihkkoohnab

namespace Go.Proofs.Ytheliihkkoohnab
open Go.ChangeShapes Go.WideShapes Go.ChangeAt Go.RowKit
set_option linter.unusedVariables false
set_option linter.unusedSimpArgs false
set_option maxRecDepth 100000

/-! ### sound, row, compare, tail -/
def soundF (k : Int) (neg : Bool) (s : Int) (hi lo : Nat) (rest : Bool) (far : Int) : Bool :=
  if k = 0 ∨ k = 2 then decide (neg = false ∧ s = 0 ∧ hi = 0 ∧ lo = 0 ∧ rest = false) else decide (k = 1 ∧ 9223372036854775808 ≤ hi ∧ -far ≤ s ∧ s ≤ far)
theorem soundF_X (k : Int) (neg : Bool) (s : Int) (hi lo : Nat) (rest : Bool) : soundF k neg s hi lo rest 1099511627776 = soundX k neg s hi lo rest := rfl
theorem soundF_N (k : Int) (neg : Bool) (s : Int) (f : Nat) : soundF k neg s f 0 false 1073741824 = soundN k neg s f := by unfold soundF soundN; simp
set_option maxHeartbeats 1000000 in
theorem rsound_any (k : Int) (neg : Bool) (s : Int) (hi lo : Nat) (rest : Bool) (far : Int) (hh : hi < 2 ^ 64) (hf : 0 ≤ far ∧ far ≤ 1099511627776) (w : World) :
    Calls Try.prog 23 #[exV k neg s hi lo rest, .int .i64 far] w fun e w' => e = .returned (.bool (soundF k neg s hi lo rest far)) ∧ Below w.heap.size w w' := by
  have hsh : ((hi : Int) / 9223372036854775808 == 1) = decide (9223372036854775808 ≤ hi) := by
    by_cases h : 9223372036854775808 ≤ hi
    · rw [decide_eq_true h]; exact beq_iff_eq.2 (by omega)
    · rw [decide_eq_false h]; exact beq_eq_false_iff_ne.2 (by omega)
  have hwr : IntKind.i64.wrap (-far) = -far := wrapI (by omega)
  clear hf
  unfold exV soundF
  refine cps fun Q hQ => ?_
  by_cases h0 : k = 0
  · subst h0
    go_enter Try.func23, Try.ntmps23
    go_wp2
    all_goals exact hQ.out _ _ ⟨ret_b (by simp_all), cmore (Below.refl _ _) _⟩
  · by_cases h2 : k = 2
    · subst h2
      go_enter Try.func23, Try.ntmps23
      go_wp2
      all_goals exact hQ.out _ _ ⟨ret_b (by simp_all), cmore (Below.refl _ _) _⟩
    · by_cases h1 : k = 1
      · subst h1
        go_enter Try.func23, Try.ntmps23
        go_wp2
        all_goals exact hQ.out _ _ ⟨ret_b (by simp_all <;> omega), cmore (Below.refl _ _) _⟩
      · have d0 : (k == 0) = false := beq_eq_false_iff_ne.2 h0
        have d1 : (k == 1) = false := beq_eq_false_iff_ne.2 h1
        have d2 : (k == 2) = false := beq_eq_false_iff_ne.2 h2
        have HN : Hid (¬ k = 0 ∧ ¬ k = 1 ∧ ¬ k = 2) := ⟨h0, h1, h2⟩
        clear h0 h1 h2
        go_enter Try.func23, Try.ntmps23
        go_wp2
        all_goals exact hQ.out _ _ ⟨ret_b (by have := HN.out; simp_all), cmore (Below.refl _ _) _⟩
set_option maxHeartbeats 1000000 in
theorem rrow_any (k : Int) (h1 : -200 ≤ k) (h2 : k ≤ 61) (w : World) :
    Calls Try.prog 65 #[.int .i64 k] w fun e w' => e = .returned (.tuple #[.int .u64 (numOf (headK k) : Nat), .int .i64 ((headK k).length : Nat)]) ∧ w' = w := by
  obtain ⟨a, b⟩ := headK_num k
  rw [a, b]
  clear a b
  refine cps fun Q hQ => ?_
  by_cases h : 0 ≤ k
  · rw [if_pos h, if_pos h] at hQ
    obtain ⟨d, rfl⟩ := Int.eq_ofNat_of_zero_le h
    rw [Int.toNat_natCast] at hQ
    obtain ⟨D, hD⟩ : ∃ D, D = d + 2 := ⟨_, rfl⟩
    rw [← hD] at hQ
    have e1 : IntKind.i64.wrap ((d : Int) + 2) = (D : Int) := by rw [wrapI (by omega)]; omega
    have e2 : IntKind.u64.wrap (IntKind.u64.wrap (2 ^ D) - 2) = ((2 ^ D - 2 : Nat) : Int) := by
      have c : ((2 : Int) ^ D) = ((2 ^ D : Nat) : Int) := by simp
      have p1 : 2 ^ D ≤ 2 ^ 63 := Nat.pow_le_pow_right (by decide) (by omega)
      have p2 : 2 ^ 2 ≤ 2 ^ D := Nat.pow_le_pow_right (by decide) (by omega)
      rw [c, wrapN, Nat.mod_eq_of_lt (by omega), IntKind.wrap_u64]
      generalize 2 ^ D = X at *
      omega
    have e3 : IntKind.u64.wrap (IntKind.u64.wrap (1 * 2 ^ D) - 2) = ((2 ^ D - 2 : Nat) : Int) := by rw [Int.one_mul]; exact e2
    generalize 2 ^ D - 2 = X at *
    have g2 : (0 : Int) ≤ (D : Int) := by omega
    have g3 : decide ((0 : Int) ≤ (d : Int)) = true := decide_eq_true (by omega)
    have gm : min D 64 = D := by omega
    clear hD h1 h2 h
    go_enter Try.func65, Try.ntmps65
    go_wp2
    exact hQ.out _ _ ⟨rfl, rfl⟩
  · rw [if_neg h, if_neg h] at hQ
    have e1 : IntKind.i64.wrap (1 - k) = (((1 - k).toNat : Nat) : Int) := by rw [wrapI (by omega)]; omega
    generalize (1 - k).toNat = X at *
    have g : decide (0 ≤ k) = false := decide_eq_false h
    go_enter Try.func65, Try.ntmps65
    go_wp2
    exact hQ.out _ _ ⟨rfl, rfl⟩
theorem rcompare_any {a h l : Nat} (rest : Bool) (ha : Tw a h l) (w : World) :
    Calls Try.prog 67 #[.agg #[.int .u64 h, .int .u64 l], .bool rest] w fun e w' => e = .returned (.int .i64 (cmpX a rest : Nat)) ∧ Below w.heap.size w w' := by
  have k1 := tcmp_any ha (b := 2 ^ 127) (h2 := 9223372036854775808) (l2 := 0) ⟨by decide, by decide, by decide⟩
  refine cps fun Q hQ => ?_
  unfold cmpX at hQ
  rcases Nat.lt_trichotomy a (2 ^ 127) with hc | hc | hc
  · rw [cmpN_lt hc] at k1
    rw [if_neg (by omega), if_neg (by omega)] at hQ
    by_cases h0 : a = 0
    · have hz : h = 0 ∧ l = 0 := by have := ha.eq; omega
      obtain ⟨rfl, rfl⟩ := hz
      subst h0
      clear ha hc
      cases rest
      all_goals
        go_enter Try.func67, Try.ntmps67
        go_wp2_with (go_at_call 61; refine (k1 _).mono ?_; rintro e w1 ⟨rfl, hb1⟩; obtain ⟨hc1, hf1⟩ := bcell hb1; have z1 : w.heap.size < w1.heap.size := (by have := hb1.size; simp at this; omega))
        exact hQ.out _ _ ⟨rfl, cthen (cmore (Below.refl _ _) _) hb1⟩
    · rw [if_neg (fun c => h0 c.1)] at hQ
      have hz : (¬ h = 0) ∨ (h = 0 ∧ ¬ l = 0) := by have := ha.eq; omega
      clear ha hc h0
      rcases hz with hz | ⟨rfl, hz⟩
      · have d1 : ((h : Int) == 0) = false := beq_eq_false_iff_ne.2 (by omega)
        clear hz
        go_enter Try.func67, Try.ntmps67
        go_wp2_with (go_at_call 61; refine (k1 _).mono ?_; rintro e w1 ⟨rfl, hb1⟩; obtain ⟨hc1, hf1⟩ := bcell hb1; have z1 : w.heap.size < w1.heap.size := (by have := hb1.size; simp at this; omega))
        exact hQ.out _ _ ⟨rfl, cthen (cmore (Below.refl _ _) _) hb1⟩
      · have d1 : ((l : Int) == 0) = false := beq_eq_false_iff_ne.2 (by omega)
        clear hz
        go_enter Try.func67, Try.ntmps67
        go_wp2_with (go_at_call 61; refine (k1 _).mono ?_; rintro e w1 ⟨rfl, hb1⟩; obtain ⟨hc1, hf1⟩ := bcell hb1; have z1 : w.heap.size < w1.heap.size := (by have := hb1.size; simp at this; omega))
        exact hQ.out _ _ ⟨rfl, cthen (cmore (Below.refl _ _) _) hb1⟩
  · subst hc
    rw [cmpN_eq] at k1
    rw [if_pos rfl] at hQ
    clear ha
    cases rest
    all_goals
      go_enter Try.func67, Try.ntmps67
      go_wp2_with (go_at_call 61; refine (k1 _).mono ?_; rintro e w1 ⟨rfl, hb1⟩)
      exact hQ.out _ _ ⟨rfl, cthen (cmore (Below.refl _ _) _) hb1⟩
  · rw [cmpN_gt hc] at k1
    rw [if_neg (by omega), if_pos hc] at hQ
    clear ha hc
    go_enter Try.func67, Try.ntmps67
    go_wp2_with (go_at_call 61; refine (k1 _).mono ?_; rintro e w1 ⟨rfl, hb1⟩)
    exact hQ.out _ _ ⟨rfl, cthen (cmore (Below.refl _ _) _) hb1⟩
end Go.Proofs.Ytheliihkkoohnab

namespace Go.Proofs.Ytheliihkkoohnab
open Go.ChangeShapes Go.WideShapes Go.ChangeAt Go.RowKit
set_option linter.unusedVariables false
set_option linter.unusedSimpArgs false
set_option maxRecDepth 100000

/-! ### what stands behind the run -/
theorem top_off (hi : Nat) (h1 : 9223372036854775808 ≤ hi) (h2 : hi < 18446744073709551616) : bits BinOp.andNot IntKind.u64 (hi : Int) 9223372036854775808 = ((hi - 9223372036854775808 : Nat) : Int) := by
  have := u64_andNot_nat hi 9223372036854775808 h2 (by decide)
  rw [show ((9223372036854775808 : Nat) : Int) = 9223372036854775808 from rfl] at this
  rw [this, show 18446744073709551615 - 9223372036854775808 = 2 ^ 63 - 1 by decide, Nat.and_two_pow_sub_one_eq_mod]
  have e : hi % 2 ^ 63 = hi - 9223372036854775808 := by omega
  rw [e]
theorem exp_or (h1 e : Nat) (h : h1 < 4611686018427387904) (he : e < 4) : bits BinOp.or IntKind.u64 (h1 : Int) (IntKind.u64.wrap ((e : Int) * 4611686018427387904)) = ((e * 4611686018427387904 + h1 : Nat) : Int) := by
  have e1 : IntKind.u64.wrap ((e : Int) * 4611686018427387904) = ((e * 4611686018427387904 : Nat) : Int) := by rw [IntKind.wrap_u64]; omega
  rw [e1, u64_or_nat h1 (e * 4611686018427387904) (by omega) (by omega)]
  congr 1
  have := Nat.two_pow_add_eq_or_of_lt (i := 62) (b := h1) h e
  rw [show 2 ^ 62 * e = e * 4611686018427387904 by rw [Nat.mul_comm]] at this
  rw [this, Nat.or_comm]
/-- an operation that its guard leaves out, carried to the front -/
theorem wpC_skip {P : Program} {ops : Array Oper} {Q : Exit → Act → World → Prop} {md : Region.Mode} {C : World → Prop} (i : Nat) {oi : Oper} {fuel : Nat} {listed : Array Bool} {a : Act} {w : World} (hi : ops[i]? = some oi)
    (hf : (Region.noSelect ops && Region.free md ops listed i && (Region.ready md ops listed).contains i) = true)
    (hQ : ∀ c a w, Q (.panic c) (a.put oi.dst undef) w → Q (.panic c) a w) (hwant : Region.wanted oi (yielded ops a.tmps) = false)
    (h : wpAnyC C P md ops Q fuel (listed.setIfInBounds i true) (a.put oi.dst undef) w) : wpAnyC C P md ops Q (fuel + 1) listed a w := by
  simp only [Bool.and_eq_true] at hf
  exact wpC_first hi (Region.noSelect_spec hf.1.1) hQ fuel listed a w (Region.free_spec hi hf.1.2) (by simpa using hf.2) (.inr ⟨hwant, rfl⟩) h
set_option maxHeartbeats 1000000 in
theorem rtail_any (e : Nat) (he : e < 4) (k : Int) (neg : Bool) (s : Int) (hi lo : Nat) (rest : Bool) (h : WordsX hi lo) {th tl : Nat} (ht : Tw (e * 2 ^ 126 + (manX hi lo - 2 ^ 127) / 2) th tl) (w : World) :
    Calls Try.prog 66 #[.int .i64 e, exV k neg s hi lo rest] w fun r w' => r = .returned (.tuple #[.agg #[.int .u64 th, .int .u64 tl], .bool (decide (lo % 2 = 1) || rest)]) ∧ Below w.heap.size w w' := by
  obtain ⟨a1, a2, a3⟩ := h
  have hA : Tw (manX hi lo - 2 ^ 127) (hi - 9223372036854775808) lo := by
    unfold manX
    rw [show (2 : Nat) ^ 127 = 9223372036854775808 * 18446744073709551616 by decide]
    exact ⟨by omega, by omega, by omega⟩
  obtain ⟨h1, l1, hs⟩ : ∃ h1 l1, Tw ((manX hi lo - 2 ^ 127) / 2 ^ 1) h1 l1 := by
    have := hA.lt
    exact ⟨(manX hi lo - 2 ^ 127) / 2 ^ 1 / 18446744073709551616, (manX hi lo - 2 ^ 127) / 2 ^ 1 % 18446744073709551616, by omega, by omega, by omega⟩
  have hh1 : h1 < 4611686018427387904 := by
    have e1 := hs.eq
    have e2 := hA.eq
    have e3 := hs.lo
    rw [e2] at e1
    clear ht hs hA
    omega
  have hlost : decide (lo % 2 = 1) = decide ((manX hi lo - 2 ^ 127) % 2 ^ 1 ≠ 0) := by
    rw [hA.eq]
    have : ((hi - 9223372036854775808) * 18446744073709551616 + lo) % 2 ^ 1 = lo % 2 := by omega
    rw [this]
    rcases Nat.mod_two_eq_zero_or_one lo with c | c <;> simp [c]
  obtain ⟨hth, rfl⟩ := ht.one (show Tw (e * 2 ^ 126 + (manX hi lo - 2 ^ 127) / 2) (e * 4611686018427387904 + h1) l1 from ⟨by
    have e1 := hs.eq
    rw [Nat.pow_one] at e1
    rw [e1, show (2 : Nat) ^ 126 = 4611686018427387904 * 18446744073709551616 by decide]
    omega, by omega, hs.lo⟩)
  have k1 := fun w => tshr_any 1 (by decide) hA hs hlost w
  have f1 := top_off hi a1 a2
  have f2 := exp_or h1 e hh1 he
  have f3 : IntKind.u64.wrap (e : Int) = (e : Int) := by rw [IntKind.wrap_u64]; omega
  have f4 : bits BinOp.or IntKind.u64 (h1 : Int) (IntKind.u64.wrap (IntKind.u64.wrap (e : Int) * 4611686018427387904)) = ((e * 4611686018427387904 + h1 : Nat) : Int) := by rw [f3]; exact f2
  have f5 : bits BinOp.or IntKind.u64 (h1 : Int) ((e : Int) * 4611686018427387904) = ((e * 4611686018427387904 + h1 : Nat) : Int) := by
    rw [← f2]; congr 1; rw [IntKind.wrap_u64]; omega
  rw [← hth] at f2 f4 f5
  obtain ⟨hi', hhi⟩ : ∃ x, x = hi - 9223372036854775808 := ⟨_, rfl⟩
  rw [← hhi] at f1 k1
  clear hA hs hlost ht a1 a2 a3 hh1 hth hhi
  generalize decide (lo % 2 = 1) = lost at *
  unfold exV
  refine cps fun Q hQ => ?_
  cases lost
  · go_enter Try.func66, Try.ntmps66
    go_wp2_with (go_at_call 49; refine (k1 _).mono ?_; rintro e w1 ⟨rfl, hb1⟩; obtain ⟨hc1, hf1⟩ := bcell hb1; have z1 : w.heap.size + 1 < w1.heap.size := (by have := hb1.size; simp at this; omega); have z0 : w.heap.size < w1.heap.size := (by omega))
    refine wpC_region (fun W => W.cell? ⟨w.heap.size, 5, none⟩ = some (.bool rest) ∧ W.cell? ⟨w1.heap.size, 0, none⟩ = some (.int .u64 th) ∧ W.cell? ⟨w1.heap.size, 1, none⟩ = some (.int .u64 tl)) (by kernel_rfl) ?_
    refine wpC_take 0 (v := ?_) rfl (by kernel_rfl) (fun _ _ _ h => h) (by kernel_rfl) ?_ ?_; rotate_left; · (intro wC hC; obtain ⟨c1, c2, c3⟩ := hC; go_simp <;> with_reducible rfl)
    refine wpC_take 1 (v := ?_) rfl (by kernel_rfl) (fun _ _ _ h => h) (by kernel_rfl) ?_ ?_; rotate_left; · (intro wC hC; obtain ⟨c1, c2, c3⟩ := hC; go_simp <;> with_reducible rfl)
    refine wpC_take 2 (v := ?_) rfl (by kernel_rfl) (fun _ _ _ h => h) (by kernel_rfl) ?_ ?_; rotate_left; · (intro wC hC; obtain ⟨c1, c2, c3⟩ := hC; go_simp <;> with_reducible rfl)
    refine wpC_take 3 (v := ?_) rfl (by kernel_rfl) (fun _ _ _ h => h) (by kernel_rfl) ?_ ?_; rotate_left; · (intro wC hC; obtain ⟨c1, c2, c3⟩ := hC; go_simp <;> with_reducible rfl)
    refine wpC_take 4 (v := ?_) rfl (by kernel_rfl) (fun _ _ _ h => h) (by kernel_rfl) ?_ ?_; rotate_left; · (intro wC hC; obtain ⟨c1, c2, c3⟩ := hC; go_simp <;> with_reducible rfl)
    refine wpC_take 5 (v := ?_) rfl (by kernel_rfl) (fun _ _ _ h => h) (by kernel_rfl) ?_ ?_; rotate_left; · (intro wC hC; obtain ⟨c1, c2, c3⟩ := hC; go_simp <;> with_reducible rfl)
    refine wpC_step 6 rfl (by kernel_rfl) (by kernel_rfl) (by simp [go_sem, hc1, z0, f5]) (fun K hK => ?_)
    go_simp
    try (refine hK _ _ ?_; clear hK K)
    refine wpC_take 7 (v := ?_) rfl (by kernel_rfl) (fun _ _ _ h => h) (by kernel_rfl) ?_ ?_; rotate_left; · (intro wC hC; obtain ⟨c1, c2, c3⟩ := hC; go_simp <;> with_reducible rfl)
    refine wpC_done (by kernel_rfl) (by simp [go_sem, hc1, z0, f5]) ?_
    go_wp2
    refine bodyPost_ret (v := .tuple #[.agg #[.int .u64 th, .int .u64 tl], .bool _]) (by simp [results, Try.results66, go_sem, hc1, z0, z1]) rfl (hQ.out _ _ ⟨rfl, ?_⟩)
    exact bdrew (bmore (bset (bset (bthen (bmore (bmore (Below.refl _ _) _) _) hb1) (by omega) _ _) (by omega) _ _) _)
  · go_enter Try.func66, Try.ntmps66
    go_wp2_with (go_at_call 49; refine (k1 _).mono ?_; rintro e w1 ⟨rfl, hb1⟩; obtain ⟨hc1, hf1⟩ := bcell hb1; have z1 : w.heap.size + 1 < w1.heap.size := (by have := hb1.size; simp at this; omega); have z0 : w.heap.size < w1.heap.size := (by omega))
    refine wpC_region (fun W => W.cell? ⟨w.heap.size, 5, none⟩ = some (.bool rest) ∧ W.cell? ⟨w1.heap.size, 0, none⟩ = some (.int .u64 th) ∧ W.cell? ⟨w1.heap.size, 1, none⟩ = some (.int .u64 tl)) (by kernel_rfl) ?_
    refine wpC_take 0 (v := ?_) rfl (by kernel_rfl) (fun _ _ _ h => h) (by kernel_rfl) ?_ ?_; rotate_left; · (intro wC hC; obtain ⟨c1, c2, c3⟩ := hC; go_simp <;> with_reducible rfl)
    refine wpC_take 1 (v := ?_) rfl (by kernel_rfl) (fun _ _ _ h => h) (by kernel_rfl) ?_ ?_; rotate_left; · (intro wC hC; obtain ⟨c1, c2, c3⟩ := hC; go_simp <;> with_reducible rfl)
    refine wpC_take 2 (v := ?_) rfl (by kernel_rfl) (fun _ _ _ h => h) (by kernel_rfl) ?_ ?_; rotate_left; · (intro wC hC; obtain ⟨c1, c2, c3⟩ := hC; go_simp <;> with_reducible rfl)
    refine wpC_skip 3 rfl (by kernel_rfl) (fun _ _ _ h => h) (by kernel_rfl) ?_
    refine wpC_skip 4 rfl (by kernel_rfl) (fun _ _ _ h => h) (by kernel_rfl) ?_
    refine wpC_take 5 (v := ?_) rfl (by kernel_rfl) (fun _ _ _ h => h) (by kernel_rfl) ?_ ?_; rotate_left; · (intro wC hC; obtain ⟨c1, c2, c3⟩ := hC; go_simp <;> with_reducible rfl)
    refine wpC_step 6 rfl (by kernel_rfl) (by kernel_rfl) (by simp [go_sem, hc1, z0, f5]) (fun K hK => ?_)
    go_simp
    try (refine hK _ _ ?_; clear hK K)
    refine wpC_take 7 (v := ?_) rfl (by kernel_rfl) (fun _ _ _ h => h) (by kernel_rfl) ?_ ?_; rotate_left; · (intro wC hC; obtain ⟨c1, c2, c3⟩ := hC; go_simp <;> with_reducible rfl)
    refine wpC_done (by kernel_rfl) (by simp [go_sem, hc1, z0, f5]) ?_
    go_wp2
    refine bodyPost_ret (v := .tuple #[.agg #[.int .u64 th, .int .u64 tl], .bool _]) (by simp [results, Try.results66, go_sem, hc1, z0, z1]) rfl (hQ.out _ _ ⟨rfl, ?_⟩)
    exact bdrew (bmore (bset (bset (bthen (bmore (bmore (Below.refl _ _) _) _) hb1) (by omega) _ _) (by omega) _ _) _)
end Go.Proofs.Ytheliihkkoohnab

namespace Go.Proofs.Ytheliihkkoohnab
open Go.ChangeShapes Go.WideShapes Go.ChangeAt Go.RowKit
set_option linter.unusedVariables false
set_option linter.unusedSimpArgs false
set_option maxRecDepth 100000

/-! ### the string, cut -/
theorem pow_join (R room n : Nat) (h : room ≤ 62) : R * 2 ^ room < 2 ^ 64 → IntKind.u64.wrap ((R : Int) * 2 ^ room) = ((R * 2 ^ room : Nat) : Int) := by
  intro h2
  have e : ((R : Int) * 2 ^ room) = ((R * 2 ^ room : Nat) : Int) := by simp
  rw [e, wrapN, Nat.mod_eq_of_lt h2]
theorem tail_half (s : Int) (M : Nat) (h : Mant M) : tailN s M / 2 < 340282366920938463463374607431768211456 := by
  have := tail_lt s M h
  rw [show (2 : Nat) ^ 129 = 340282366920938463463374607431768211456 * 2 by decide] at this
  exact Nat.div_lt_of_lt_mul (by rw [Nat.mul_comm]; exact this)
theorem half_pow (x y : Nat) : (x * (2 ^ 127) + y) / 2 = x * 2 ^ 126 + y / 2 := by
  rw [show (2 : Nat) ^ 127 = 2 * 2 ^ 126 by decide, show x * (2 * 2 ^ 126) = 2 * (x * 2 ^ 126) by rw [Nat.mul_left_comm], Nat.mul_add_div (by decide)]
theorem tw_of {x : Nat} (h : x < 340282366920938463463374607431768211456) : ∃ a b, Tw x a b := ⟨x / 18446744073709551616, x % 18446744073709551616, by omega, by omega, by omega⟩
set_option maxHeartbeats 2000000 in
theorem rcutstr_any (n : Nat) (neg : Bool) (s : Int) (hi lo : Nat) (rest : Bool) (hn : Wd n) (h : WordsX hi lo) (h1 : s < 4 * n - 8) (h2 : 8 - 4 * (n : Int) ≤ s) (w : World) :
    Calls Try.prog 47 #[.int .i64 n, exV 1 neg s hi lo rest] w fun e w' => e = .returned (.tuple #[.int .u64 (numOf ((strX s hi lo).take (n - 1)) : Nat), .int .i64 (leftL ((strX s hi lo).drop (n - 1)) rest : Nat)]) ∧ Below w.heap.size w w' := by
  have hw := wd_le hn
  obtain ⟨hr1, hr2⟩ := head_room n s hn h1 h2
  obtain ⟨room, hroom⟩ : ∃ r, r = n - 1 - (headK (s / 4)).length := ⟨_, rfl⟩
  obtain ⟨B, hB⟩ : ∃ B, B = tailN s (manX hi lo) / 2 := ⟨_, rfl⟩
  obtain ⟨c1, c2, c3⟩ := cut_parts n s hi lo rest h hr1 hw.2 B room hB hroom
  have hrl := numOf_lt (headK (s / 4))
  have hBe : B = (s % 4).toNat * 2 ^ 126 + (manX hi lo - 2 ^ 127) / 2 := by
    rw [hB]; unfold tailN
    exact half_pow _ _
  have hBl : B < 340282366920938463463374607431768211456 := hB ▸ tail_half s (manX hi lo) h.mant
  obtain ⟨bh, bl, hTB⟩ : ∃ bh bl, Tw B bh bl := tw_of hBl
  have k2 := fun w => rtail_any (s % 4).toNat (by omega) 1 neg s hi lo rest h (hBe ▸ hTB) w
  have k1 := rrow_any (s / 4) (by omega) (by omega)
  obtain ⟨F, hF⟩ : ∃ F, F = B / 2 ^ (128 - room) := ⟨_, rfl⟩
  rw [← hF] at c1 c2
  have hr62 : room ≤ 62 := by omega
  have hF62 : F < 4611686018427387904 := Nat.lt_of_lt_of_le c2 (Nat.le_trans (Nat.pow_le_pow_right (by decide) hr62) (by decide))
  have hTF : Tw (B / 2 ^ (128 - room)) 0 F := ⟨by rw [← hF]; omega, by omega, by omega⟩
  have k3 := fun w => tshr_any (c := decide (B % 2 ^ (128 - room) ≠ 0)) (128 - room) (by omega) hTB hTF rfl w
  obtain ⟨L, hL⟩ : ∃ L, L = B * 2 ^ room % 2 ^ 128 := ⟨_, rfl⟩
  rw [← hL] at c3
  have hLl : L < 340282366920938463463374607431768211456 := by rw [hL]; exact Nat.mod_lt _ (by decide)
  obtain ⟨lh, ll, hTL⟩ : ∃ lh ll, Tw L lh ll := tw_of hLl
  have k4 := fun w => tshl_any (c := decide (340282366920938463463374607431768211456 ≤ B * 2 ^ room)) room (by omega) hTB (hL ▸ hTL) rfl w
  have k5 := rcompare_any (decide (lo % 2 = 1) || rest) hTL
  rw [← c3] at k5
  have hrun : numOf (headK (s / 4)) * 2 ^ room + 2 ^ room ≤ 2 ^ 63 := by
    rw [← Nat.succ_mul]
    refine Nat.le_trans (Nat.mul_le_mul_right _ hrl) ?_
    rw [← Nat.pow_add]
    exact Nat.pow_le_pow_right (by decide) (by omega)
  have w1 := pow_join (numOf (headK (s / 4))) room n hr62 (by omega)
  have w2 := u64_or_nat (numOf (headK (s / 4)) * 2 ^ room) F (by omega) (by omega)
  have w3 : (numOf (headK (s / 4)) * 2 ^ room) ||| F = numOf (headK (s / 4)) * 2 ^ room + F := by
    have := Nat.two_pow_add_eq_or_of_lt (i := room) (b := F) c2 (numOf (headK (s / 4)))
    rw [Nat.mul_comm (2 ^ room)] at this
    exact this.symm
  rw [w3, ← c1] at w2
  have e1 : IntKind.i64.wrap (s / 4 * 4) = s / 4 * 4 := wrapI (by omega)
  have e2 : IntKind.i64.wrap (s - s / 4 * 4) = (((s % 4).toNat : Nat) : Int) := by rw [wrapI (by omega)]; omega
  have e3 : IntKind.i64.wrap ((n : Int) - 1) = (n : Int) - 1 := wrapI (by omega)
  have e4 : IntKind.i64.wrap ((n : Int) - 1 - ((headK (s / 4)).length : Nat)) = (room : Int) := by rw [wrapI (by omega)]; omega
  have e5 : IntKind.i64.wrap (128 - (room : Int)) = ((128 - room : Nat) : Int) := by rw [wrapI (by omega)]; omega
  have g0 : (0 : Int) ≤ (room : Int) := by omega
  have gm : min room 64 = room := by omega
  clear hF hL hB hBe hBl hTB hTF hTL hLl hrun w3 hrl c1 c2 c3 hr1 hr2 hroom h1 h2 h hn
  generalize numOf (headK (s / 4)) * 2 ^ room = RR at *
  generalize numOf (headK (s / 4)) = R at *
  generalize (headK (s / 4)).length = size at *
  generalize leftL ((strX s hi lo).drop (n - 1)) rest = LF at *
  generalize numOf ((strX s hi lo).take (n - 1)) = P at *
  generalize decide (B % 2 ^ (128 - room) ≠ 0) = q1 at *
  generalize decide (340282366920938463463374607431768211456 ≤ B * 2 ^ room) = q2 at *
  generalize (decide (lo % 2 = 1) || rest) = rr at *
  generalize (s % 4).toNat = ee at *
  generalize 128 - room = j at *
  unfold exV at *
  refine cps fun Q hQ => ?_
  go_enter Try.func47, Try.ntmps47
  go_wp2_with (first
    | (go_at_call 65; refine (k1 _).mono ?_; rintro e wx ⟨rfl, hwx⟩; rw [hwx]; clear hwx wx)
    | (go_at_call 66; refine (k2 _).mono ?_; rintro e w1 ⟨rfl, hb1⟩; have z1 : w.heap.size < w1.heap.size := (by have := hb1.size; simp at this; omega); have HB1 : Hid (Below _ _ _) := cthen (cmore (Below.refl _ _) _) hb1; clear hb1)
    | (go_at_call 49; refine (k3 _).mono ?_; rintro e w2 ⟨rfl, hb2⟩; have R9 := (hb2.block w1.heap.size (by simp)).trans (rownew w1 _ _); have z2 : w1.heap.size < w2.heap.size := (by have := hb2.size; simp at this; omega); have x0 := rowcell R9 0; have x1 := rowcell R9 1; simp only [List.getElem?_toArray, List.getElem?_cons_zero, List.getElem?_cons_succ] at x0 x1; have HB2 : Hid (Below _ _ _) := cthen (cmore HB1.out _) hb2; have HR9 : Hid _ := R9; clear hb2 R9)
    | (go_at_call 62; refine (k4 _).mono ?_; rintro e w3 ⟨rfl, hb3⟩; have R12 := (hb3.block w2.heap.size (by simp)).trans (rownew w2 _ _); have z3 : w2.heap.size < w3.heap.size := (by have := hb3.size; simp at this; omega); have y0 := rowcell R12 0; have y1 := rowcell R12 1; simp only [List.getElem?_toArray, List.getElem?_cons_zero, List.getElem?_cons_succ] at y0 y1; have HB3 : Hid (Below _ _ _) := cthen (cmore HB2.out _) hb3; have HR12 : Hid _ := R12; clear hb3 R12))
  have R15 := rownew w3 #[.int .u64 lh, .int .u64 ll] 71
  have BW : Hid (Below _ _ _) := cmore HB3.out (.cells #[.int .u64 lh, .int .u64 ll] 71)
  have x120 := (Below.heap_alloc w3 (.cells #[.int .u64 lh, .int .u64 ll] 71) _ z3).trans HR12.out
  obtain ⟨W, hW⟩ : ∃ W, W = w3.alloc (.cells #[.int .u64 lh, .int .u64 ll] 71) := ⟨_, rfl⟩
  rw [← hW] at R15 x120 BW ⊢
  have u1 := rowcell x120 1
  have v0 := rowcell R15 0
  have v1 := rowcell R15 1
  simp only [List.getElem?_toArray, List.getElem?_cons_zero, List.getElem?_cons_succ] at u1 v0 v1
  clear hW
  refine wpC_region (fun W => W.cell? ⟨w2.heap.size, 1, none⟩ = some (.int .u64 F) ∧ W.cell? ⟨w3.heap.size, 0, none⟩ = some (.int .u64 lh) ∧ W.cell? ⟨w3.heap.size, 1, none⟩ = some (.int .u64 ll)) (by kernel_rfl) ?_
  refine wpC_take 0 (v := ?_) rfl (by kernel_rfl) (fun _ _ _ h => h) (by kernel_rfl) ?_ ?_; rotate_left; · (intro wC hC; obtain ⟨c1, c2, c3⟩ := hC; go_simp <;> with_reducible rfl)
  refine wpC_take 1 (v := ?_) rfl (by kernel_rfl) (fun _ _ _ h => h) (by kernel_rfl) ?_ ?_; rotate_left; · (intro wC hC; obtain ⟨c1, c2, c3⟩ := hC; go_simp <;> with_reducible rfl)
  refine wpC_take 2 (v := ?_) rfl (by kernel_rfl) (fun _ _ _ h => h) (by kernel_rfl) ?_ ?_; rotate_left; · (intro wC hC; obtain ⟨c1, c2, c3⟩ := hC; go_simp <;> with_reducible rfl)
  refine wpC_take 3 (v := ?_) rfl (by kernel_rfl) (fun _ _ _ h => h) (by kernel_rfl) ?_ ?_; rotate_left; · (intro wC hC; obtain ⟨c1, c2, c3⟩ := hC; go_simp <;> with_reducible rfl)
  refine wpC_take 4 (v := ?_) rfl (by kernel_rfl) (fun _ _ _ h => h) (by kernel_rfl) ?_ ?_; rotate_left; · (intro wC hC; obtain ⟨c1, c2, c3⟩ := hC; go_simp <;> with_reducible rfl)
  refine wpC_take 5 (v := ?_) rfl (by kernel_rfl) (fun _ _ _ h => h) (by kernel_rfl) ?_ ?_; rotate_left; · (intro wC hC; obtain ⟨c1, c2, c3⟩ := hC; go_simp <;> with_reducible rfl)
  refine wpC_take 6 (v := ?_) rfl (by kernel_rfl) (fun _ _ _ h => h) (by kernel_rfl) ?_ ?_; rotate_left; · (intro wC hC; obtain ⟨c1, c2, c3⟩ := hC; go_simp <;> with_reducible rfl)
  refine wpC_take 7 (v := ?_) rfl (by kernel_rfl) (fun _ _ _ h => h) (by kernel_rfl) ?_ ?_; rotate_left; · (intro wC hC; obtain ⟨c1, c2, c3⟩ := hC; go_simp <;> with_reducible rfl)
  refine wpC_step 8 rfl (by kernel_rfl) (by kernel_rfl) ⟨u1, v0, v1⟩ (fun K hK => ?_)
  go_simp
  go_wp2_with ((go_at_call 67; refine (k5 _).mono ?_; rintro e w5 ⟨rfl, hb5⟩))
  try (refine hK _ _ ?_; clear hK K)
  refine wpC_take 9 (v := ?_) rfl (by kernel_rfl) (fun _ _ _ h => h) (by kernel_rfl) ?_ ?_; rotate_left; · (intro wC hC; obtain ⟨c1, c2, c3⟩ := hC; go_simp <;> with_reducible rfl)
  refine wpC_take 10 (v := ?_) rfl (by kernel_rfl) (fun _ _ _ h => h) (by kernel_rfl) ?_ ?_; rotate_left; · (intro wC hC; obtain ⟨c1, c2, c3⟩ := hC; go_simp <;> with_reducible rfl)
  have bcl := cdrew (Below.refl W.heap.size W)
  refine wpC_done (by kernel_rfl) (by have z4 : w2.heap.size < W.heap.size := rowlt x120; have z5 : w3.heap.size < W.heap.size := rowlt R15; exact ⟨(hb5.cell (p := ⟨w2.heap.size, 1, none⟩) z4).trans u1, (hb5.cell (p := ⟨w3.heap.size, 0, none⟩) z5).trans v0, (hb5.cell (p := ⟨w3.heap.size, 1, none⟩) z5).trans v1⟩) ?_
  go_wp2
  go_ret2
  exact hQ.out _ _ ⟨rfl, cthen BW.out (cthen bcl hb5)⟩
end Go.Proofs.Ytheliihkkoohnab

namespace Go.Proofs.Ytheliihkkoohnab
open Go.ChangeShapes Go.WideShapes Go.ChangeAt Go.RowKit
set_option linter.unusedVariables false
set_option linter.unusedSimpArgs false
set_option maxRecDepth 100000

/-! ### Cut -/
theorem rcut_zero (n : Nat) (hn : Wd n) (w : World) :
    Calls Try.prog 25 #[.int .i64 n, exV 0 false 0 0 0 false] w fun e w' => e = .returned (.tuple #[.int .u64 0, .int .i64 0, .nilIface]) ∧ Below w.heap.size w w' := by
  have k1 := of_ok n hn
  have k2 := rsound_any 0 false 0 0 0 false 1099511627776 (by decide) (by decide)
  rw [soundF_X, show soundX 0 false 0 0 0 false = true from rfl] at k2
  unfold exV at *
  unfold shp at k1
  rw [show ((0 : Nat) : Int) = 0 from rfl] at *
  generalize ((2 ^ (n - 1) : Nat) : Int) = nv at *
  generalize ((2 ^ (n - 1) - 1 : Nat) : Int) = mv at *
  generalize ((4 * n - 8 : Nat) : Int) = tv at *
  clear hn
  refine cps fun Q hQ => ?_
  go_enter Try.func25, Try.ntmps25
  go_wp2_with (first
    | (go_at_call 46; go_must (refine (k1 _).mono ?_); rintro e w1 ⟨rfl, hb1⟩; have R1 := (hb1.block w.heap.size (by simp)).trans (rownew w _ _); have z1 : w.heap.size < w1.heap.size := (by have := hb1.size; simp at this; omega); have hne1 : ¬ w.heap.size = w1.heap.size := (by omega); have hne2 : ¬ w1.heap.size = w.heap.size := (by omega); have b0 := rowcell R1 0; have b1 := rowcell R1 1; have b2 := rowcell R1 2; have b3 := rowcell R1 3; have b4 := rowcell R1 4; have b5 := rowcell R1 5; simp only [List.getElem?_toArray, List.getElem?_cons_zero, List.getElem?_cons_succ] at b0 b1 b2 b3 b4 b5; have HR1 : Hid _ := R1; have HB1 : Hid (Below _ _ _) := hb1; clear hb1 R1)
    | (go_at_call 23; go_must (refine (k2 _).mono ?_); rintro e w2 ⟨rfl, hb2⟩; have R2 := (hb2.block w.heap.size (by simp; omega)).trans ((Below.heap_alloc w1 _ _ z1).trans HR1.out); have S2 := (hb2.block w1.heap.size (by simp)).trans (rownew w1 _ _); have z2 : w1.heap.size < w2.heap.size := (by have := hb2.size; simp at this; omega); have y2 : w.heap.size < w2.heap.size := (Nat.lt_trans z1 z2); have c0 := rowcell R2 0; have c1 := rowcell R2 1; have c2 := rowcell R2 2; simp only [List.getElem?_toArray, List.getElem?_cons_zero, List.getElem?_cons_succ] at c0 c1 c2; have s1 := rowcell S2 1; have s2 := rowcell S2 2; have s3 := rowcell S2 3; have s4 := rowcell S2 4; simp only [List.getElem?_toArray, List.getElem?_cons_zero, List.getElem?_cons_succ] at s1 s2 s3 s4; have HB2 : Hid (Below _ _ _) := hb2; clear hb2 R2 S2))
  go_ret3
  exact hQ.out _ _ ⟨rfl, cthen (cmore (cthen (cmore (Below.refl _ _) _) HB1.out) _) HB2.out⟩
theorem rcut_nar (n : Nat) (hn : Wd n) (w : World) :
    Calls Try.prog 25 #[.int .i64 n, exV 2 false 0 0 0 false] w fun e w' => e = .returned (.tuple #[.int .u64 (2 ^ (n - 1) : Nat), .int .i64 0, .nilIface]) ∧ Below w.heap.size w w' := by
  have k1 := of_ok n hn
  have k2 := rsound_any 2 false 0 0 0 false 1099511627776 (by decide) (by decide)
  rw [soundF_X, show soundX 2 false 0 0 0 false = true from rfl] at k2
  unfold exV at *
  unfold shp at k1
  rw [show ((0 : Nat) : Int) = 0 from rfl] at *
  generalize ((2 ^ (n - 1) : Nat) : Int) = nv at *
  generalize ((2 ^ (n - 1) - 1 : Nat) : Int) = mv at *
  generalize ((4 * n - 8 : Nat) : Int) = tv at *
  clear hn
  refine cps fun Q hQ => ?_
  go_enter Try.func25, Try.ntmps25
  go_wp2_with (first
    | (go_at_call 46; go_must (refine (k1 _).mono ?_); rintro e w1 ⟨rfl, hb1⟩; have R1 := (hb1.block w.heap.size (by simp)).trans (rownew w _ _); have z1 : w.heap.size < w1.heap.size := (by have := hb1.size; simp at this; omega); have hne1 : ¬ w.heap.size = w1.heap.size := (by omega); have hne2 : ¬ w1.heap.size = w.heap.size := (by omega); have b0 := rowcell R1 0; have b1 := rowcell R1 1; have b2 := rowcell R1 2; have b3 := rowcell R1 3; have b4 := rowcell R1 4; have b5 := rowcell R1 5; simp only [List.getElem?_toArray, List.getElem?_cons_zero, List.getElem?_cons_succ] at b0 b1 b2 b3 b4 b5; have HR1 : Hid _ := R1; have HB1 : Hid (Below _ _ _) := hb1; clear hb1 R1)
    | (go_at_call 23; go_must (refine (k2 _).mono ?_); rintro e w2 ⟨rfl, hb2⟩; have R2 := (hb2.block w.heap.size (by simp; omega)).trans ((Below.heap_alloc w1 _ _ z1).trans HR1.out); have S2 := (hb2.block w1.heap.size (by simp)).trans (rownew w1 _ _); have z2 : w1.heap.size < w2.heap.size := (by have := hb2.size; simp at this; omega); have y2 : w.heap.size < w2.heap.size := (Nat.lt_trans z1 z2); have c0 := rowcell R2 0; have c1 := rowcell R2 1; have c2 := rowcell R2 2; simp only [List.getElem?_toArray, List.getElem?_cons_zero, List.getElem?_cons_succ] at c0 c1 c2; have s1 := rowcell S2 1; have s2 := rowcell S2 2; have s3 := rowcell S2 3; have s4 := rowcell S2 4; simp only [List.getElem?_toArray, List.getElem?_cons_zero, List.getElem?_cons_succ] at s1 s2 s3 s4; have HB2 : Hid (Below _ _ _) := hb2; clear hb2 R2 S2))
  go_ret3
  exact hQ.out _ _ ⟨rfl, cthen (cmore (cthen (cmore (Below.refl _ _) _) HB1.out) _) HB2.out⟩
theorem least_kind (n : Nat) (hn : Wd n) : kindOf n (1 % 2 ^ n) = 1 := by rcases hn with rfl | rfl | rfl | rfl <;> decide
theorem least_scale (n : Nat) (hn : Wd n) : scaleL (strS n 1) = 8 - 4 * (n : Int) := by rcases hn with rfl | rfl | rfl | rfl <;> decide +kernel
/-- the least value's own string: all of it before the cut -/
theorem least_cut (n : Nat) (hi lo : Nat) (rest : Bool) (hn : Wd n) (h : justX hi lo rest = true) :
    numOf ((strX (8 - 4 * (n : Int)) hi lo).take (n - 1)) = 1 ∧ leftL ((strX (8 - 4 * (n : Int)) hi lo).drop (n - 1)) rest = 0 := by
  have hw := wd_le hn
  have e1 : (8 - 4 * (n : Int)) / 4 = 2 - n := by omega
  have e2 : ((8 - 4 * (n : Int)) % 4).toNat = 0 := by omega
  have hk : headK (2 - (n : Int)) = noughts (n - 2) ++ [true] := by
    unfold headK
    rw [if_neg (by omega), show (-(2 - (n : Int))).toNat = n - 2 by omega]
    try rfl
  have hl : (noughts (n - 2) ++ [true]).length = n - 1 := by simp [noughts]; omega
  have e : strX (8 - 4 * (n : Int)) hi lo = (noughts (n - 2) ++ [true]) ++ (bitsOf 0 2 ++ digX hi lo) := by
    unfold strX; rw [e1, e2, hk]; simp
  unfold justX at h
  have hr : rest = false := by cases rest <;> simp at h ⊢
  have ha : (digX hi lo).any id = false := by rw [hr] at h; simpa using h
  rw [e]
  refine ⟨?_, ?_⟩
  · rw [List.take_append, List.take_of_length_le (by omega), hl, Nat.sub_self, List.take_zero, List.append_nil, numOf_append, numOf_noughts]
    rfl
  · rw [List.drop_append, List.drop_of_length_le (by omega), hl, Nat.sub_self, List.drop_zero, List.nil_append]
    have : bitsOf 0 2 = [false, false] := rfl
    rw [this]
    unfold leftL
    show (if false = true then _ else _) = 0
    have hd : (([false, false] ++ digX hi lo).drop 1).any id = false := by
      show (false :: digX hi lo).any id = false
      rw [List.any_cons, ha]; rfl
    rw [hd, hr]; rfl
set_option maxHeartbeats 2000000 in
theorem rcut_real (n : Nat) (neg : Bool) (s : Int) (hi lo : Nat) (rest : Bool) (hn : Wd n) (hs : soundX 1 neg s hi lo rest = true) (h : WordsX hi lo) (w : World) :
    Calls Try.prog 25 #[.int .i64 n, exV 1 neg s hi lo rest] w fun e w' => e = .returned (.tuple #[.int .u64 (cutX n s hi lo rest).1, .int .i64 (cutX n s hi lo rest).2, .nilIface]) ∧ Below w.heap.size w w' := by
  have hw := wd_le hn
  have k1 := of_ok n hn
  have k2 := rsound_any 1 neg s hi lo rest 1099511627776 h.hi64 (by decide)
  rw [soundF_X, hs] at k2
  have k3 := cdecode_real n 1 hn (by decide) (least_kind n hn)
  rw [least_scale n hn] at k3
  have htv : ((4 * n - 8 : Nat) : Int) = 4 * (n : Int) - 8 := by omega
  unfold shp at k1
  rw [htv] at k1
  unfold numV at k3
  generalize Nat.testBit 1 (n - 1) = ng at *
  generalize wordL (strS n 1) = wl at *
  rw [show ((1 : Nat) : Int) = 1 from rfl] at *
  have key : (4 * (n : Int) - 8 ≤ s ∧ cutX n s hi lo rest = (2 ^ (n - 1) - 1, 0)) ∨ (¬ 4 * (n : Int) - 8 ≤ s ∧ s < 8 - 4 * (n : Int) ∧ cutX n s hi lo rest = (1, 0)) ∨
      (¬ 4 * (n : Int) - 8 ≤ s ∧ ¬ s < 8 - 4 * (n : Int) ∧ cutX n s hi lo rest = (numOf ((strX s hi lo).take (n - 1)), leftL ((strX s hi lo).drop (n - 1)) rest)) := by
    unfold cutX
    by_cases ct : 4 * (n : Int) - 8 ≤ s
    · exact .inl ⟨ct, by rw [if_pos ct]⟩
    · by_cases cl : s < 8 - 4 * (n : Int)
      · exact .inr (.inl ⟨ct, cl, by rw [if_neg ct, if_pos (.inl cl)]⟩)
      · refine .inr (.inr ⟨ct, cl, ?_⟩)
        by_cases cj : s = 8 - 4 * (n : Int) ∧ justX hi lo rest = true
        · rw [if_neg ct, if_pos (.inr cj)]
          obtain ⟨rfl, hj⟩ := cj
          obtain ⟨a, b⟩ := least_cut n hi lo rest hn hj
          rw [a, b]
        · rw [if_neg ct, if_neg (by rintro (c | c); exact cl c; exact cj c)]
  refine cps fun Q hQ => ?_
  rcases key with ⟨ct, hc⟩ | ⟨ct, cl, hc⟩ | ⟨ct, cl, hc⟩
  · rw [hc] at hQ
    have g1 : decide (4 * (n : Int) - 8 ≤ s) = true := decide_eq_true ct
    generalize 4 * (n : Int) - 8 = tv at *
    generalize 8 - 4 * (n : Int) = lv at *
    generalize 2 ^ (n - 1) - 1 = mv at *
    generalize 2 ^ (n - 1) = nv at *
    unfold exV at *
    clear hc ct hn hs h hw htv
    go_enter Try.func25, Try.ntmps25
    go_wp2_with (first
      | (go_at_call 46; go_must (refine (k1 _).mono ?_); rintro e w1 ⟨rfl, hb1⟩; have R1 := (hb1.block w.heap.size (by simp)).trans (rownew w _ _); have z1 : w.heap.size < w1.heap.size := (by have := hb1.size; simp at this; omega); have hne1 : ¬ w.heap.size = w1.heap.size := (by omega); have hne2 : ¬ w1.heap.size = w.heap.size := (by omega); have b0 := rowcell R1 0; have b1 := rowcell R1 1; have b2 := rowcell R1 2; have b3 := rowcell R1 3; have b4 := rowcell R1 4; have b5 := rowcell R1 5; simp only [List.getElem?_toArray, List.getElem?_cons_zero, List.getElem?_cons_succ] at b0 b1 b2 b3 b4 b5; have HR1 : Hid _ := R1; have HB1 : Hid (Below _ _ _) := hb1; clear hb1 R1)
      | (go_at_call 23; go_must (refine (k2 _).mono ?_); rintro e w2 ⟨rfl, hb2⟩; have R2 := (hb2.block w.heap.size (by simp; omega)).trans ((Below.heap_alloc w1 _ _ z1).trans HR1.out); have S2 := (hb2.block w1.heap.size (by simp)).trans (rownew w1 _ _); have z2 : w1.heap.size < w2.heap.size := (by have := hb2.size; simp at this; omega); have y2 : w.heap.size < w2.heap.size := (Nat.lt_trans z1 z2); have c0 := rowcell R2 0; have c2 := rowcell R2 2; simp only [List.getElem?_toArray, List.getElem?_cons_zero, List.getElem?_cons_succ] at c0 c2; have s1 := rowcell S2 1; have s2 := rowcell S2 2; have s4 := rowcell S2 4; simp only [List.getElem?_toArray, List.getElem?_cons_zero, List.getElem?_cons_succ] at s1 s2 s4; have HR2 : Hid _ := R2; have HS2 : Hid _ := S2; have HB2 : Hid (Below _ _ _) := hb2; clear hb2 R2 S2)
      | (go_at_call 12; go_must (refine (k3 _).mono ?_); rintro e w3 ⟨rfl, hb3⟩; have R3 := (hb3.block w.heap.size y2).trans HR2.out; have S3 := (hb3.block w1.heap.size z2).trans HS2.out; have z3 : w1.heap.size < w3.heap.size := rowlt S3; have y3 : w.heap.size < w3.heap.size := rowlt R3; have d2 := rowcell R3 2; simp only [List.getElem?_toArray, List.getElem?_cons_zero, List.getElem?_cons_succ] at d2; have t1 := rowcell S3 1; have t2 := rowcell S3 2; have t4 := rowcell S3 4; simp only [List.getElem?_toArray, List.getElem?_cons_zero, List.getElem?_cons_succ] at t1 t2 t4; have HB3 : Hid (Below _ _ _) := hb3; clear hb3 R3 S3))
    go_ret3
    exact hQ.out _ _ ⟨rfl, cmore (cthen (cthen (cmore (cthen (cmore (Below.refl _ _) _) HB1.out) _) HB2.out) HB3.out) _⟩
  · rw [hc] at hQ
    have g1 : decide (4 * (n : Int) - 8 ≤ s) = false := decide_eq_false ct
    have g2 : decide (s < 8 - 4 * (n : Int)) = true := decide_eq_true cl
    generalize 4 * (n : Int) - 8 = tv at *
    generalize 8 - 4 * (n : Int) = lv at *
    generalize 2 ^ (n - 1) - 1 = mv at *
    generalize 2 ^ (n - 1) = nv at *
    unfold exV at *
    clear hc ct cl hn hs h hw htv
    go_enter Try.func25, Try.ntmps25
    go_wp2_with (first
      | (go_at_call 46; go_must (refine (k1 _).mono ?_); rintro e w1 ⟨rfl, hb1⟩; have R1 := (hb1.block w.heap.size (by simp)).trans (rownew w _ _); have z1 : w.heap.size < w1.heap.size := (by have := hb1.size; simp at this; omega); have hne1 : ¬ w.heap.size = w1.heap.size := (by omega); have hne2 : ¬ w1.heap.size = w.heap.size := (by omega); have b0 := rowcell R1 0; have b1 := rowcell R1 1; have b2 := rowcell R1 2; have b3 := rowcell R1 3; have b4 := rowcell R1 4; have b5 := rowcell R1 5; simp only [List.getElem?_toArray, List.getElem?_cons_zero, List.getElem?_cons_succ] at b0 b1 b2 b3 b4 b5; have HR1 : Hid _ := R1; have HB1 : Hid (Below _ _ _) := hb1; clear hb1 R1)
      | (go_at_call 23; go_must (refine (k2 _).mono ?_); rintro e w2 ⟨rfl, hb2⟩; have R2 := (hb2.block w.heap.size (by simp; omega)).trans ((Below.heap_alloc w1 _ _ z1).trans HR1.out); have S2 := (hb2.block w1.heap.size (by simp)).trans (rownew w1 _ _); have z2 : w1.heap.size < w2.heap.size := (by have := hb2.size; simp at this; omega); have y2 : w.heap.size < w2.heap.size := (Nat.lt_trans z1 z2); have c0 := rowcell R2 0; have c2 := rowcell R2 2; simp only [List.getElem?_toArray, List.getElem?_cons_zero, List.getElem?_cons_succ] at c0 c2; have s1 := rowcell S2 1; have s2 := rowcell S2 2; have s4 := rowcell S2 4; simp only [List.getElem?_toArray, List.getElem?_cons_zero, List.getElem?_cons_succ] at s1 s2 s4; have HR2 : Hid _ := R2; have HS2 : Hid _ := S2; have HB2 : Hid (Below _ _ _) := hb2; clear hb2 R2 S2)
      | (go_at_call 12; go_must (refine (k3 _).mono ?_); rintro e w3 ⟨rfl, hb3⟩; have R3 := (hb3.block w.heap.size y2).trans HR2.out; have S3 := (hb3.block w1.heap.size z2).trans HS2.out; have z3 : w1.heap.size < w3.heap.size := rowlt S3; have y3 : w.heap.size < w3.heap.size := rowlt R3; have d2 := rowcell R3 2; simp only [List.getElem?_toArray, List.getElem?_cons_zero, List.getElem?_cons_succ] at d2; have t1 := rowcell S3 1; have t2 := rowcell S3 2; have t4 := rowcell S3 4; simp only [List.getElem?_toArray, List.getElem?_cons_zero, List.getElem?_cons_succ] at t1 t2 t4; have HB3 : Hid (Below _ _ _) := hb3; clear hb3 R3 S3))
    go_ret3
    exact hQ.out _ _ ⟨rfl, cmore (cthen (cthen (cmore (cthen (cmore (Below.refl _ _) _) HB1.out) _) HB2.out) HB3.out) _⟩
  · rw [hc] at hQ
    have k4 := rcutstr_any n neg s hi lo rest hn h (by omega) (by omega)
    have g1 : decide (4 * (n : Int) - 8 ≤ s) = false := decide_eq_false ct
    have g2 : decide (s < 8 - 4 * (n : Int)) = false := decide_eq_false cl
    generalize 4 * (n : Int) - 8 = tv at *
    generalize 8 - 4 * (n : Int) = lv at *
    generalize numOf ((strX s hi lo).take (n - 1)) = P at *
    generalize leftL ((strX s hi lo).drop (n - 1)) rest = L at *
    generalize 2 ^ (n - 1) - 1 = mv at *
    generalize 2 ^ (n - 1) = nv at *
    unfold exV at *
    clear hc ct cl hn hs h hw htv
    go_enter Try.func25, Try.ntmps25
    go_wp2_with (first
      | (go_at_call 46; go_must (refine (k1 _).mono ?_); rintro e w1 ⟨rfl, hb1⟩; have R1 := (hb1.block w.heap.size (by simp)).trans (rownew w _ _); have z1 : w.heap.size < w1.heap.size := (by have := hb1.size; simp at this; omega); have hne1 : ¬ w.heap.size = w1.heap.size := (by omega); have hne2 : ¬ w1.heap.size = w.heap.size := (by omega); have b0 := rowcell R1 0; have b1 := rowcell R1 1; have b2 := rowcell R1 2; have b3 := rowcell R1 3; have b4 := rowcell R1 4; have b5 := rowcell R1 5; simp only [List.getElem?_toArray, List.getElem?_cons_zero, List.getElem?_cons_succ] at b0 b1 b2 b3 b4 b5; have HR1 : Hid _ := R1; have HB1 : Hid (Below _ _ _) := hb1; clear hb1 R1)
      | (go_at_call 23; go_must (refine (k2 _).mono ?_); rintro e w2 ⟨rfl, hb2⟩; have R2 := (hb2.block w.heap.size (by simp; omega)).trans ((Below.heap_alloc w1 _ _ z1).trans HR1.out); have S2 := (hb2.block w1.heap.size (by simp)).trans (rownew w1 _ _); have z2 : w1.heap.size < w2.heap.size := (by have := hb2.size; simp at this; omega); have y2 : w.heap.size < w2.heap.size := (Nat.lt_trans z1 z2); have c0 := rowcell R2 0; have c2 := rowcell R2 2; simp only [List.getElem?_toArray, List.getElem?_cons_zero, List.getElem?_cons_succ] at c0 c2; have s1 := rowcell S2 1; have s2 := rowcell S2 2; have s4 := rowcell S2 4; simp only [List.getElem?_toArray, List.getElem?_cons_zero, List.getElem?_cons_succ] at s1 s2 s4; have HR2 : Hid _ := R2; have HS2 : Hid _ := S2; have HB2 : Hid (Below _ _ _) := hb2; clear hb2 R2 S2)
      | (go_at_call 12; go_must (refine (k3 _).mono ?_); rintro e w3 ⟨rfl, hb3⟩; have R3 := (hb3.block w.heap.size y2).trans HR2.out; have S3 := (hb3.block w1.heap.size z2).trans HS2.out; have z3 : w1.heap.size < w3.heap.size := rowlt S3; have y3 : w.heap.size < w3.heap.size := rowlt R3; have d0 := rowcell R3 0; have d1 := rowcell R3 1; have d2 := rowcell R3 2; have d3 := rowcell R3 3; have d4 := rowcell R3 4; have d5 := rowcell R3 5; simp only [List.getElem?_toArray, List.getElem?_cons_zero, List.getElem?_cons_succ] at d0 d1 d2 d3 d4 d5; have t1 := rowcell S3 1; have t2 := rowcell S3 2; have t4 := rowcell S3 4; simp only [List.getElem?_toArray, List.getElem?_cons_zero, List.getElem?_cons_succ] at t1 t2 t4; have HB3 : Hid (Below _ _ _) := hb3; clear hb3 R3 S3)
      | (go_at_call 47; go_must (refine (k4 _).mono ?_); rintro e w4 ⟨rfl, hb4⟩; have HB4 : Hid (Below _ _ _) := hb4; clear hb4))
    go_ret3
    exact hQ.out _ _ ⟨rfl, cthen (cmore (cthen (cthen (cmore (cthen (cmore (Below.refl _ _) _) HB1.out) _) HB2.out) HB3.out) _) HB4.out⟩
end Go.Proofs.Ytheliihkkoohnab

namespace Go.Proofs.Ytheliihkkoohnab
open Go.ChangeShapes Go.WideShapes Go.ChangeAt Go.RowKit
set_option linter.unusedVariables false
set_option linter.unusedSimpArgs false
set_option maxRecDepth 100000

/-! ### Of -/
theorem rndof_ok (k : Int) (neg : Bool) (s : Int) (f : Nat) (hf : f < 2 ^ 64) (hs : soundN k neg s f = true) (w : World) :
    Calls Try.prog 13 #[numV k neg s f] w fun e w' => e = .returned (.tuple #[exV k neg s f 0 false, .nilIface]) ∧ Below w.heap.size w w' := by
  have k2 := rsound_any k neg s f 0 false 1073741824 hf (by decide)
  rw [soundF_N, hs] at k2
  unfold numV exV at *
  rw [show ((0 : Nat) : Int) = 0 from rfl] at *
  clear hs
  refine cps fun Q hQ => ?_
  go_enter Try.func13, Try.ntmps13
  go_wp2_with (go_at_call 23; refine (k2 _).mono ?_; rintro e w2 ⟨rfl, hb2⟩; have RR := (hb2.block (w.heap.size + 1) (by simp)).trans ((Below.heap_alloc ((w.alloc _).alloc _) _ _ (by simp)).trans (rownew' _ _ _ _ (by simp))); have r0 := rowcell RR 0; have r1 := rowcell RR 1; have r2 := rowcell RR 2; have r3 := rowcell RR 3; have r4 := rowcell RR 4; have r5 := rowcell RR 5; have rf := rowfree RR; simp only [List.getElem?_toArray, List.getElem?_cons_zero, List.getElem?_cons_succ] at r0 r1 r2 r3 r4 r5; have RY := (hb2.block (w.heap.size + 2) (by simp)).trans (rownew' _ _ _ _ (by simp)); have y0 := rowcell RY 0; have y1 := rowcell RY 1; have y2 := rowcell RY 2; have y3 := rowcell RY 3; have y4 := rowcell RY 4; have y5 := rowcell RY 5; simp only [List.getElem?_toArray, List.getElem?_cons_zero, List.getElem?_cons_succ] at y0 y1 y2 y3 y4 y5; have HB2 : Hid (Below _ _ _) := cthen (cmore (cmore (cmore (Below.refl _ _) _) _) _) hb2; clear hb2 RR RY)
  refine bodyPost_ret (v := .tuple #[.agg #[.int .i64 k, .bool neg, .int .i64 s, .int .u64 f, .int .u64 0, .bool false], .nilIface]) (by simp [results, Try.results13, go_sem, r0, r1, r2, r3, r4, r5]) rfl (hQ.out _ _ ⟨rfl, ?_⟩)
  have hle : w.heap.size ≤ w.heap.size + 1 := by omega
  exact cset (cset (cset (cset (cset (cset HB2.out hle _ _) hle _ _) hle _ _) hle _ _) hle _ _) hle _ _
/-! ### Round -/
theorem rround_plain (n : Int) (k : Int) (P : Nat) (w : World)
    (k1 : ∀ w, Calls Try.prog 25 #[.int .i64 n, exV k false 0 0 0 false] w fun e w' => e = .returned (.tuple #[.int .u64 P, .int .i64 0, .nilIface]) ∧ Below w.heap.size w w') :
    Calls Try.prog 15 #[.int .i64 n, exV k false 0 0 0 false] w fun e w' => e = .returned (.tuple #[.int .u64 P, .nilIface]) ∧ Below w.heap.size w w' := by
  unfold exV at *
  refine cps fun Q hQ => ?_
  go_enter Try.func15, Try.ntmps15
  go_wp2_with (go_at_call 25; refine (k1 _).mono ?_; rintro e w2 ⟨rfl, hb2⟩; have hc := fun b o h => hb2.cell (p := ⟨b, o, none⟩) h; have z1 : w.heap.size < w2.heap.size := (by have := hb2.size; simp at this; omega))
  exact hQ.out _ _ ⟨rfl, cthen (cmore (Below.refl _ _) _) hb2⟩
theorem rround_zero (n : Nat) (hn : Wd n) (w : World) :
    Calls Try.prog 15 #[.int .i64 n, exV 0 false 0 0 0 false] w fun e w' => e = .returned (.tuple #[.int .u64 0, .nilIface]) ∧ Below w.heap.size w w' :=
  rround_plain n 0 0 w (rcut_zero n hn)
theorem rround_nar (n : Nat) (hn : Wd n) (w : World) :
    Calls Try.prog 15 #[.int .i64 n, exV 2 false 0 0 0 false] w fun e w' => e = .returned (.tuple #[.int .u64 (2 ^ (n - 1) : Nat), .nilIface]) ∧ Below w.heap.size w w' :=
  rround_plain n 2 (2 ^ (n - 1)) w (rcut_nar n hn)
set_option maxHeartbeats 2000000 in
theorem rround_real (n : Nat) (neg : Bool) (s : Int) (hi lo : Nat) (rest : Bool) (hn : Wd n) (hs : soundX 1 neg s hi lo rest = true) (h : WordsX hi lo) (w : World) :
    Calls Try.prog 15 #[.int .i64 n, exV 1 neg s hi lo rest] w fun e w' => e = .returned (.tuple #[.int .u64 (patR n neg (rndX n s hi lo rest)), .nilIface]) ∧ Below w.heap.size w w' := by
  have k1 := rcut_real n neg s hi lo rest hn hs h
  obtain ⟨r1, r2⟩ := rnd_range n s hi lo rest hn h
  obtain ⟨H, e1, e2, e3, _⟩ := wd_pows hn
  have hw := wd_le hn
  have hH : H ≤ 2 ^ 63 := by rw [← e2]; exact Nat.pow_le_pow_right (by decide) (by omega)
  have k2 := fold_ok n (minusU (rndX n s hi lo rest)) hn (minusU_lt _)
  have hneg : minusU (rndX n s hi lo rest) % 2 ^ n = 2 ^ n - rndX n s hi lo rest := by
    rw [minusU_mod n _ hn (by omega), Nat.mod_eq_of_lt (a := rndX n s hi lo rest) (by omega), Nat.mod_eq_of_lt (by omega)]
  rw [hneg] at k2
  have hmw := minusU_wrap (rndX n s hi lo rest) (by omega)
  have HR : Hid (rndX n s hi lo rest = roundP (cutX n s hi lo rest).1 (cutX n s hi lo rest).2) := rfl
  have hle := (roundP_le (cutX n s hi lo rest).1 (cutX n s hi lo rest).2).1
  have hle2 : (cutX n s hi lo rest).1 ≤ rndX n s hi lo rest := hle
  unfold patR
  generalize 2 ^ n - rndX n s hi lo rest = M at *
  generalize minusU (rndX n s hi lo rest) = U at *
  generalize (cutX n s hi lo rest).1 = P at *
  generalize (cutX n s hi lo rest).2 = l at *
  generalize rndX n s hi lo rest = R at *
  unfold exV at *
  rw [e2] at r2
  have hR63 : R < 2 ^ 63 := by omega
  clear hn hs h hneg e1 e2 e3 hle r2 hH
  have hup : (l = 3 ∨ (l = 2 ∧ P % 2 = 1)) → P + 1 = R := fun c => by rw [HR.out]; unfold roundP; rw [if_pos c]
  have hst : ¬ (l = 3 ∨ (l = 2 ∧ P % 2 = 1)) → P = R := fun c => by rw [HR.out]; unfold roundP; rw [if_neg c]
  have ew : IntKind.u64.wrap ((P : Int) + 1) = (P : Int) + 1 := by rw [IntKind.wrap_u64]; omega
  refine cps fun Q hQ => ?_
  by_cases c : l = 3 ∨ (l = 2 ∧ P % 2 = 1)
  · have hP := hup c
    have hc2 : ((P : Int) + 1) = (R : Int) := by omega
    have ew2 : IntKind.u64.wrap ((P : Int) + 1) = (R : Int) := by rw [ew, hc2]
    clear hup hst hP hc2 ew
    rcases c with rfl | ⟨rfl, c⟩
    · cases neg
      · go_enter Try.func15, Try.ntmps15
        go_wp2_with (first
          | (go_at_call 25; refine (k1 _).mono ?_; rintro e w2 ⟨rfl, hb2⟩; have a1 := ((hb2.cell (p := ⟨w.heap.size, 1, none⟩) (by simp)).trans (rowcell (rownew w _ _) 1)); simp only [List.getElem?_toArray, List.getElem?_cons_zero, List.getElem?_cons_succ] at a1; have z1 : w.heap.size < w2.heap.size := (by have := hb2.size; simp at this; omega)))
        exact hQ.out _ _ ⟨rfl, cthen (cmore (Below.refl _ _) _) hb2⟩
      · go_enter Try.func15, Try.ntmps15
        go_wp2_with (first
          | (go_at_call 25; refine (k1 _).mono ?_; rintro e w2 ⟨rfl, hb2⟩; have a1 := ((hb2.cell (p := ⟨w.heap.size, 1, none⟩) (by simp)).trans (rowcell (rownew w _ _) 1)); simp only [List.getElem?_toArray, List.getElem?_cons_zero, List.getElem?_cons_succ] at a1; have z1 : w.heap.size < w2.heap.size := (by have := hb2.size; simp at this; omega))
          | (go_at_call 26; refine (k2 _).mono ?_; rintro e w4 ⟨rfl, hb4⟩))
        exact hQ.out _ _ ⟨rfl, cthen (cthen (cmore (Below.refl _ _) _) hb2) hb4⟩
    · have m2 : (Int.tmod (P : Int) 2) = (P : Int) % 2 := Int.tmod_eq_emod_of_nonneg (by omega)
      have m3 : (P : Int) % 2 = 1 := by omega
      clear c
      cases neg
      · go_enter Try.func15, Try.ntmps15
        go_wp2_with (first
          | (go_at_call 25; refine (k1 _).mono ?_; rintro e w2 ⟨rfl, hb2⟩; have a1 := ((hb2.cell (p := ⟨w.heap.size, 1, none⟩) (by simp)).trans (rowcell (rownew w _ _) 1)); simp only [List.getElem?_toArray, List.getElem?_cons_zero, List.getElem?_cons_succ] at a1; have z1 : w.heap.size < w2.heap.size := (by have := hb2.size; simp at this; omega)))
        exact hQ.out _ _ ⟨rfl, cthen (cmore (Below.refl _ _) _) hb2⟩
      · go_enter Try.func15, Try.ntmps15
        go_wp2_with (first
          | (go_at_call 25; refine (k1 _).mono ?_; rintro e w2 ⟨rfl, hb2⟩; have a1 := ((hb2.cell (p := ⟨w.heap.size, 1, none⟩) (by simp)).trans (rowcell (rownew w _ _) 1)); simp only [List.getElem?_toArray, List.getElem?_cons_zero, List.getElem?_cons_succ] at a1; have z1 : w.heap.size < w2.heap.size := (by have := hb2.size; simp at this; omega))
          | (go_at_call 26; refine (k2 _).mono ?_; rintro e w4 ⟨rfl, hb4⟩))
        exact hQ.out _ _ ⟨rfl, cthen (cthen (cmore (Below.refl _ _) _) hb2) hb4⟩
  · have hP := hst c
    subst hP
    clear hup hst
    have d3 : ((l : Int) == 3) = false := beq_eq_false_iff_ne.2 (by omega)
    by_cases h2 : l = 2
    · subst h2
      have m3 : (P : Int) % 2 = 0 := by omega
      have m2 : (Int.tmod (P : Int) 2) = (P : Int) % 2 := Int.tmod_eq_emod_of_nonneg (by omega)
      clear c
      cases neg
      · go_enter Try.func15, Try.ntmps15
        go_wp2_with (first
          | (go_at_call 25; refine (k1 _).mono ?_; rintro e w2 ⟨rfl, hb2⟩; have a1 := ((hb2.cell (p := ⟨w.heap.size, 1, none⟩) (by simp)).trans (rowcell (rownew w _ _) 1)); simp only [List.getElem?_toArray, List.getElem?_cons_zero, List.getElem?_cons_succ] at a1; have z1 : w.heap.size < w2.heap.size := (by have := hb2.size; simp at this; omega)))
        exact hQ.out _ _ ⟨rfl, cthen (cmore (Below.refl _ _) _) hb2⟩
      · go_enter Try.func15, Try.ntmps15
        go_wp2_with (first
          | (go_at_call 25; refine (k1 _).mono ?_; rintro e w2 ⟨rfl, hb2⟩; have a1 := ((hb2.cell (p := ⟨w.heap.size, 1, none⟩) (by simp)).trans (rowcell (rownew w _ _) 1)); simp only [List.getElem?_toArray, List.getElem?_cons_zero, List.getElem?_cons_succ] at a1; have z1 : w.heap.size < w2.heap.size := (by have := hb2.size; simp at this; omega))
          | (go_at_call 26; refine (k2 _).mono ?_; rintro e w4 ⟨rfl, hb4⟩))
        exact hQ.out _ _ ⟨rfl, cthen (cthen (cmore (Below.refl _ _) _) hb2) hb4⟩
    · have d2 : ((l : Int) == 2) = false := beq_eq_false_iff_ne.2 (by omega)
      clear c h2
      cases neg
      · go_enter Try.func15, Try.ntmps15
        go_wp2_with (first
          | (go_at_call 25; refine (k1 _).mono ?_; rintro e w2 ⟨rfl, hb2⟩; have a1 := ((hb2.cell (p := ⟨w.heap.size, 1, none⟩) (by simp)).trans (rowcell (rownew w _ _) 1)); simp only [List.getElem?_toArray, List.getElem?_cons_zero, List.getElem?_cons_succ] at a1; have z1 : w.heap.size < w2.heap.size := (by have := hb2.size; simp at this; omega)))
        exact hQ.out _ _ ⟨rfl, cthen (cmore (Below.refl _ _) _) hb2⟩
      · go_enter Try.func15, Try.ntmps15
        go_wp2_with (first
          | (go_at_call 25; refine (k1 _).mono ?_; rintro e w2 ⟨rfl, hb2⟩; have a1 := ((hb2.cell (p := ⟨w.heap.size, 1, none⟩) (by simp)).trans (rowcell (rownew w _ _) 1)); simp only [List.getElem?_toArray, List.getElem?_cons_zero, List.getElem?_cons_succ] at a1; have z1 : w.heap.size < w2.heap.size := (by have := hb2.size; simp at this; omega))
          | (go_at_call 26; refine (k2 _).mono ?_; rintro e w4 ⟨rfl, hb4⟩))
        exact hQ.out _ _ ⟨rfl, cthen (cthen (cmore (Below.refl _ _) _) hb2) hb4⟩
end Go.Proofs.Ytheliihkkoohnab

namespace Go.Proofs.Ytheliihkkoohnab
open Go.ChangeShapes Go.WideShapes Go.ChangeAt Go.RowKit
set_option linter.unusedVariables false
set_option linter.unusedSimpArgs false
set_option maxRecDepth 100000

/-! ### Make -/
theorem rmake_zero (neg : Bool) (exp : Int) (w : World) :
    Calls Try.prog 28 #[.bool neg, .int .u64 0, .int .u64 0, .int .i64 exp, .bool false] w fun e w' => e = .returned (.tuple #[exV 0 false 0 0 0 false, .nilIface]) ∧ Below w.heap.size w w' := by
  have k1 := tnorm_zero
  unfold exV
  refine cps fun Q hQ => ?_
  go_enter Try.func28, Try.ntmps28
  go_wp2_with (go_at_call 51; refine (k1 _).mono ?_; rintro e w2 ⟨rfl, hb2⟩; have RR := (hb2.block w.heap.size (by simp)).trans (rownew' _ _ _ _ rfl); have z2 : w.heap.size < w2.heap.size := (by have := hb2.size; simp at this; omega); have r0 := rowcell RR 0; have r1 := rowcell RR 1; have r2 := rowcell RR 2; have r3 := rowcell RR 3; have r4 := rowcell RR 4; have r5 := rowcell RR 5; have rf := rowfree RR; simp only [List.getElem?_toArray, List.getElem?_cons_zero, List.getElem?_cons_succ] at r0 r1 r2 r3 r4 r5; have HB2 : Hid (Below _ _ _) := cthen (cmore (Below.refl _ _) _) hb2; clear hb2 RR)
  refine bodyPost_ret (v := .tuple #[.agg #[.int .i64 0, .bool false, .int .i64 0, .int .u64 0, .int .u64 0, .bool false], .nilIface]) (by simp [results, Try.results28, go_sem, r0, r1, r2, r3, r4, r5, z2]) rfl (hQ.out _ _ ⟨rfl, ?_⟩)
  exact cmore (cset6 HB2.out (Nat.le_refl _)) _
theorem norm_shift {M k : Nat} (hM : blen M ≤ 128) (hk : k + blen M = 128) : normN M = M * 2 ^ k ∧ lostN M = false := by
  constructor
  · unfold normN
    by_cases h : blen M < 128
    · rw [if_pos h, show 128 - blen M = k by omega]
    · rw [if_neg h, show blen M - 128 = 0 by omega, show k = 0 by omega, Nat.pow_zero, Nat.div_one, Nat.mul_one]
  · unfold lostN
    rw [decide_eq_false (show ¬ 128 < blen M by omega), Bool.false_and]
set_option maxHeartbeats 1000000 in
theorem rmake_walk (neg : Bool) (hi lo : Nat) (exp : Int) (rest : Bool) (nh nl k : Nat) (m x hv : Int) (hne : ¬ (nh : Int) = 0) (g : rest = false ∨ ((hi : Int) / 9223372036854775808 == 0) = false)
    (k1 : ∀ w, Calls Try.prog 51 #[.agg #[.int .u64 hi, .int .u64 lo]] w fun e w' => e = .returned (.tuple #[.agg #[.int .u64 nh, .int .u64 nl], .int .i64 k]) ∧ Below w.heap.size w w')
    (hm : (if 1099511627776 < exp then 1099511627776 else exp) = m) (q1 : IntKind.i64.wrap (m + 127) = m + 127) (q2 : IntKind.i64.wrap (m + 127 - (k : Int)) = m + 127 - (k : Int))
    (hx : (if m + 127 - (k : Int) < -1099511627776 then -1099511627776 else m + 127 - (k : Int)) = x) (hy : (if 1099511627776 < x then 1099511627776 else x) = hv) (w : World) :
    Calls Try.prog 28 #[.bool neg, .int .u64 hi, .int .u64 lo, .int .i64 exp, .bool rest] w fun e w' => e = .returned (.tuple #[exV 1 neg hv nh nl rest, .nilIface]) ∧ Below w.heap.size w w' := by
  unfold exV
  refine cps fun Q hQ => ?_
  cases rest
  · clear g
    go_enter Try.func28, Try.ntmps28
    go_wp2_with (go_at_call 51; refine (k1 _).mono ?_; rintro e w2 ⟨rfl, hb2⟩; have RR := (hb2.block w.heap.size (by simp)).trans (rownew' _ _ _ _ rfl); have z2 : w.heap.size < w2.heap.size := (by have := hb2.size; simp at this; omega); have r0 := rowcell RR 0; have r1 := rowcell RR 1; have r2 := rowcell RR 2; have r3 := rowcell RR 3; have r4 := rowcell RR 4; have r5 := rowcell RR 5; have rf := rowfree RR; simp only [List.getElem?_toArray, List.getElem?_cons_zero, List.getElem?_cons_succ] at r0 r1 r2 r3 r4 r5; have HB2 : Hid (Below _ _ _) := cthen (cmore (Below.refl _ _) _) hb2; clear hb2 RR)
    all_goals
      refine bodyPost_ret (v := .tuple #[.agg #[.int .i64 1, .bool neg, .int .i64 hv, .int .u64 nh, .int .u64 nl, .bool false], .nilIface]) (by simp [results, Try.results28, go_sem, r0, r1, r2, r3, r4, r5, z2]) rfl (hQ.out _ _ ⟨rfl, ?_⟩)
      exact cmore (cset6 HB2.out (Nat.le_refl _)) _
  · have g : ((hi : Int) / 9223372036854775808 == 0) = false := by rcases g with g | g; cases g; exact g
    go_enter Try.func28, Try.ntmps28
    go_wp2_with (go_at_call 51; refine (k1 _).mono ?_; rintro e w2 ⟨rfl, hb2⟩; have RR := (hb2.block w.heap.size (by simp)).trans (rownew' _ _ _ _ rfl); have z2 : w.heap.size < w2.heap.size := (by have := hb2.size; simp at this; omega); have r0 := rowcell RR 0; have r1 := rowcell RR 1; have r2 := rowcell RR 2; have r3 := rowcell RR 3; have r4 := rowcell RR 4; have r5 := rowcell RR 5; have rf := rowfree RR; simp only [List.getElem?_toArray, List.getElem?_cons_zero, List.getElem?_cons_succ] at r0 r1 r2 r3 r4 r5; have HB2 : Hid (Below _ _ _) := cthen (cmore (Below.refl _ _) _) hb2; clear hb2 RR)
    all_goals
      refine bodyPost_ret (v := .tuple #[.agg #[.int .i64 1, .bool neg, .int .i64 hv, .int .u64 nh, .int .u64 nl, .bool true], .nilIface]) (by simp [results, Try.results28, go_sem, r0, r1, r2, r3, r4, r5, z2]) rfl (hQ.out _ _ ⟨rfl, ?_⟩)
      exact cmore (cset6 HB2.out (Nat.le_refl _)) _
theorem norm_tw {M : Nat} (h : M < 340282366920938463463374607431768211456) : Tw M (M / 2 ^ 64 % 2 ^ 64) (M % 2 ^ 64) := ⟨by omega, by omega, by omega⟩
theorem rmake_real (neg : Bool) (hi lo : Nat) (exp : Int) (rest : Bool) (hh : hi < 2 ^ 64) (hl : lo < 2 ^ 64) (he : -9223372036854775808 ≤ exp ∧ exp ≤ 9223372036854775807) (h : rest = false ∨ 9223372036854775808 ≤ hi) (h0 : manX hi lo ≠ 0) (w : World) :
    Calls Try.prog 28 #[.bool neg, .int .u64 hi, .int .u64 lo, .int .i64 exp, .bool rest] w fun e w' => e = .returned (.tuple #[exactV neg (manX hi lo) exp rest, .nilIface]) ∧ Below w.heap.size w w' := by
  have hM := manX_lt hh hl
  have hbl : blen (manX hi lo) ≤ 128 := blen_le.2 hM
  have hb1 : 1 ≤ blen (manX hi lo) := by rw [blen_pos h0]; omega
  obtain ⟨k, hk⟩ : ∃ k, k + blen (manX hi lo) = 128 := ⟨128 - blen (manX hi lo), by omega⟩
  obtain ⟨n1, n2⟩ := norm_shift hbl hk
  have hmt := (normN_mant h0).2
  have htop := (normN_words h0).top
  have hTM : Tw (manX hi lo) hi lo := ⟨rfl, by omega, by omega⟩
  have hN : normN (manX hi lo) < 340282366920938463463374607431768211456 := hmt
  have hTN := norm_tw hN
  have hTk : Tw ((manX hi lo * 2 ^ k) % 340282366920938463463374607431768211456) (normN (manX hi lo) / 2 ^ 64 % 2 ^ 64) (normN (manX hi lo) % 2 ^ 64) := by
    rw [← n1, Nat.mod_eq_of_lt hN]; exact hTN
  have k1 := fun w => tnorm_any hTM h0 hk hTk w
  have hv : exactV neg (manX hi lo) exp rest = exV 1 neg (heldX (exp + blen (manX hi lo) - 1)) (normN (manX hi lo) / 2 ^ 64 % 2 ^ 64) (normN (manX hi lo) % 2 ^ 64) rest := by
    unfold exactV; rw [if_neg h0, n2, Bool.or_false]
  rw [hv]
  have hkr : k ≤ 127 := by omega
  have hsc : exp + blen (manX hi lo) - 1 = exp + 127 - k := by omega
  rw [hsc]
  have hm : ∃ m, (if 1099511627776 < exp then 1099511627776 else exp) = m := ⟨_, rfl⟩
  obtain ⟨m, hm⟩ := hm
  have hmr : -9223372036854775808 ≤ m ∧ m ≤ 1099511627776 := by rw [← hm]; clear hTM hTN hTk k1 hmt hN htop; split <;> omega
  obtain ⟨x, hx⟩ : ∃ x, (if m + 127 - (k : Int) < -1099511627776 then -1099511627776 else m + 127 - (k : Int)) = x := ⟨_, rfl⟩
  have hy : (if 1099511627776 < x then 1099511627776 else x) = heldX (exp + 127 - k) := by
    clear hTM hTN hTk k1 hmt hN htop
    rw [← hx, ← hm]; unfold heldX
    by_cases c : 1099511627776 < exp
    · rw [if_pos c]
      repeat' split
      all_goals omega
    · rw [if_neg c]
      repeat' split
      all_goals omega
  have q1 : IntKind.i64.wrap (m + 127) = m + 127 := wrapI (by omega)
  have q2 : IntKind.i64.wrap (m + 127 - (k : Int)) = m + 127 - (k : Int) := wrapI (by omega)
  refine rmake_walk neg hi lo exp rest _ _ k m x _ ?_ ?_ k1 hm q1 q2 hx hy w
  · intro c; have c2 := Int.ofNat_eq_zero.1 c; rw [c2] at htop; exact absurd htop (by decide)
  · rcases h with h | h
    · exact .inl h
    · exact .inr (beq_eq_false_iff_ne.2 (by omega))
theorem rmake_ok (neg : Bool) (hi lo : Nat) (exp : Int) (rest : Bool) (hh : hi < 2 ^ 64) (hl : lo < 2 ^ 64) (he : -9223372036854775808 ≤ exp ∧ exp ≤ 9223372036854775807) (h : rest = false ∨ 9223372036854775808 ≤ hi) (w : World) :
    Calls Try.prog 28 #[.bool neg, .int .u64 hi, .int .u64 lo, .int .i64 exp, .bool rest] w fun e w' => e = .returned (.tuple #[exactV neg (manX hi lo) exp rest, .nilIface]) ∧ Below w.heap.size w w' := by
  by_cases h0 : manX hi lo = 0
  · have hz : hi = 0 ∧ lo = 0 := by unfold manX at h0; omega
    obtain ⟨rfl, rfl⟩ := hz
    have hr : rest = false := by rcases h with h | h; exact h; omega
    subst hr
    have hv : exactV neg (manX 0 0) exp false = exV 0 false 0 0 0 false := by unfold exactV; rw [if_pos h0]
    rw [hv]
    exact rmake_zero neg exp w
  · exact rmake_real neg hi lo exp rest hh hl he h h0 w
end Go.Proofs.Ytheliihkkoohnab

namespace Go.Proofs.Ytheliihkkoohnab
set_option maxRecDepth 100000
/-! ### the contracts of package round stand in RkD (Cut), RkE (Of, Round), RkF (Make) -/
end Go.Proofs.Ytheliihkkoohnab

namespace Go.Proofs.Ytheliihkkoohnab
open Go.ChangeShapes Go.WideShapes Go.ChangeAt Go.RowKit
set_option linter.unusedVariables false
set_option linter.unusedSimpArgs false
set_option maxRecDepth 100000

end Go.Proofs.Ytheliihkkoohnab

namespace Go.Proofs.Ytheliihkkoohnab
set_option maxRecDepth 100000
set_option linter.unusedVariables false
set_option linter.unusedSimpArgs false

/-! ### what a string means, as the number of its string (plain mathematics: P7.5's ties) -/
theorem scaleL_range (t : List Bool) (hl : t.length ≤ 63) : -256 ≤ scaleL t ∧ scaleL t ≤ 255 := by
  have hex : expL t < 4 := by
    have := numOf_lt ((restL t ++ noughts 2).take 2)
    rw [show ((restL t ++ noughts 2).take 2).length = 2 by simp] at this
    exact this
  have h1 := runL_le t
  unfold scaleL regL
  split <;> omega
theorem words_of (t : List Bool) : WordsX (wordL t) 0 := ⟨(wordL_bounds t).1, (wordL_bounds t).2, by decide⟩
theorem strX_canon (s : Int) (f : Nat) : strX s f 0 = canon s f ++ noughts 64 := by
  have : bitsOf 0 64 = noughts 64 := by decide
  unfold strX canon digX
  rw [this]; simp
theorem zed_parse (t : List Bool) (ht : true ∈ t) (hl : t.length ≤ 63) : zed (scaleL t) (manX (wordL t) 0) = numOf t * 2 ^ (209 - t.length) := by
  obtain ⟨z, hz, _⟩ := canon_parse t ht (by omega)
  have hr := scaleL_range t hl
  obtain ⟨h1, h2⟩ := zed_str (scaleL t) (manX (wordL t) 0) (digX (wordL t) 0) (digX_length _ _) (digX_num (words_of t)) (by omega) (by omega)
  have e : headK (scaleL t / 4) ++ bitsOf (scaleL t % 4).toNat 2 ++ digX (wordL t) 0 = t ++ noughts (z + 64) := by
    have := strX_canon (scaleL t) (wordL t)
    rw [hz, List.append_assoc, noughts_add] at this
    exact this
  rw [e, List.length_append, List.length_replicate] at h1 h2
  rw [← h2, numOf_append, numOf_noughts, Nat.add_zero, List.length_replicate, Nat.mul_assoc, ← Nat.pow_add]
  congr 2; omega
end Go.Proofs.Ytheliihkkoohnab

namespace Go.Proofs.Ytheliihkkoohnab
open Go.ChangeShapes Go.WideShapes Go.ChangeAt Go.RowKit
set_option linter.unusedVariables false
set_option linter.unusedSimpArgs false
set_option maxRecDepth 100000

/-! ### what a pattern means is rounded to it (plain mathematics) -/
theorem rhe_mul (H p : Nat) (hH : 0 < H) : rhe H (p * (2 * H)) = p := by
  unfold rhe
  rw [Nat.mul_div_cancel _ (by omega), Nat.mul_mod_left, if_pos rfl]
  unfold roundP
  rw [if_neg (by omega)]
theorem str_ends (m : Nat) (t : List Bool) (hm : Wd m) (hl : t.length = m - 1) (ht : true ∈ t) :
    (scaleL t = 4 * (m : Int) - 8 → numOf t = 2 ^ (m - 1) - 1) ∧ (scaleL t = 8 - 4 * (m : Int) → numOf t = 1) := by
  have hw := wd_le hm
  have hne : t ≠ [] := by rintro rfl; cases ht
  have hex : expL t < 4 := by
    have := numOf_lt ((restL t ++ noughts 2).take 2)
    rw [show ((restL t ++ noughts 2).take 2).length = 2 by simp] at this
    exact this
  obtain ⟨b, r, tl, rfl, htl⟩ := split_run t hne
  rw [List.length_append, List.length_replicate] at hl
  unfold scaleL regL
  rw [runL_rep b r tl htl, onesL_rep]
  generalize expL (List.replicate (r + 1) b ++ tl) = ex at *
  constructor
  · intro h
    cases b
    · simp at h; omega
    · simp at h
      have hr : r + 1 = m - 1 := by omega
      have htl0 : tl = [] := List.length_eq_zero_iff.1 (by omega)
      rw [htl0, List.append_nil, numOf_ones, hr]
  · intro h
    cases b
    · simp at h
      have hr : r + 1 = m - 2 ∨ r + 1 = m - 1 := by omega
      rcases htl with rfl | ⟨u, rfl⟩
      · rw [List.append_nil, List.mem_replicate] at ht
        exact absurd ht.2 (by decide)
      · rw [List.length_cons] at hl
        have hu : u = [] := List.length_eq_zero_iff.1 (by omega)
        subst hu
        rw [show List.replicate (r + 1) false = noughts (r + 1) from rfl, numOf_noughts_append]
        rfl
    · simp at h; omega
theorem rnd_home (m : Nat) (t : List Bool) (hm : Wd m) (hl : t.length = m - 1) (ht : true ∈ t) : rndX m (scaleL t) (wordL t) 0 false = numOf t := by
  have hw := wd_le hm
  have hr := of_decide_eq_true (inR_of m t hm hl ht)
  obtain ⟨e1, e2⟩ := str_ends m t hm hl ht
  rcases mid_or m (scaleL t) (justX (wordL t) 0 false) with h | h | ⟨h0, h⟩
  · rw [(rnd_mid m _ _ _ _ hm (words_of t) h).1]
    unfold zX
    rw [zed_parse t ht (by omega), hl, show 209 - (m - 1) = 210 - m by omega]
    have := rhe_mul (2 ^ (210 - m)) (numOf t) (Nat.pow_pos (by decide))
    rw [show numOf t * (2 * 2 ^ (210 - m)) = 2 * (numOf t * 2 ^ (210 - m)) by rw [Nat.mul_left_comm]] at this
    simpa using this
  · rw [rnd_top m _ _ _ _ h, e1 (by omega)]
  · rw [rnd_low m _ _ _ _ h0 h, e2 (by rcases h with h | h <;> omega)]
/-! ### ranks of patterns that are rounded -/
theorem extOf_patR (n : Nat) (hn : Wd n) (neg : Bool) (R : Nat) (h1 : 1 ≤ R) (h2 : R ≤ 2 ^ (n - 1) - 1) : extOf (patR n neg R) n = if neg then -(R : Int) else R := by
  obtain ⟨H, e1, e2, e3, _⟩ := wd_pows hn
  unfold patR
  rw [e2] at h2
  cases neg
  · simp only [Bool.false_eq_true, if_false]
    have hlt : R < 2 ^ n := by rw [e1]; omega
    have ht := top_of n R hn hlt
    rw [e2, decide_eq_false (by omega)] at ht
    unfold extOf
    rw [ht, Nat.mod_eq_of_lt hlt]; simp
  · simp only [if_true]
    have hlt : 2 ^ n - R < 2 ^ n := by rw [e1]; omega
    have ht := top_of n _ hn hlt
    rw [e2, decide_eq_true (by rw [e1]; omega)] at ht
    unfold extOf
    rw [ht, Nat.mod_eq_of_lt hlt, e1]; simp; omega
theorem extOf_nought (n : Nat) : extOf 0 n = 0 := by unfold extOf; simp
end Go.Proofs.Ytheliihkkoohnab

namespace Go.Proofs.Ytheliihkkoohnab
set_option maxRecDepth 100000
set_option linter.unusedVariables false
set_option linter.unusedSimpArgs false

/-! ### exact whole numbers times a power of 2, and their first 128 digits (plain mathematics) -/
theorem blen_two {N : Nat} (j : Nat) (h : N ≠ 0) : blen (N * 2 ^ j) = blen N + j := by
  have hp : 0 < 2 ^ j := Nat.pow_pos (by decide)
  have e : N * 2 ^ j / 2 ^ j = N := Nat.mul_div_cancel _ hp
  have := @blen_shift (N * 2 ^ j) j (by rw [e]; exact h)
  rw [e] at this
  exact this
theorem blen_at {N m : Nat} (h1 : 2 ^ m ≤ N) (h2 : N < 2 ^ (m + 1)) : blen N = m + 1 := by
  have a := blen_le.2 h2
  have b : ¬ blen N ≤ m := fun c => by have := blen_le.1 c; omega
  omega
/-- what the first 128 digits are, and what is lost -/
theorem norm_at {N j : Nat} (h1 : 2 ^ (127 + j) ≤ N) (h2 : N < 2 ^ (128 + j)) : blen N = 128 + j ∧ normN N = N / 2 ^ j ∧ lostN N = decide (N % 2 ^ j ≠ 0) := by
  have hb : blen N = 128 + j := by
    have := @blen_at N (127 + j) h1 (by rw [show 127 + j + 1 = 128 + j by omega]; exact h2)
    omega
  refine ⟨hb, ?_, ?_⟩
  · unfold normN; rw [hb, if_neg (by omega), show 128 + j - 128 = j by omega]
  · unfold lostN; rw [hb, show 128 + j - 128 = j by omega]
    rcases Nat.eq_zero_or_pos j with rfl | hj
    · rw [Nat.pow_zero, Nat.mod_one]; rfl
    · rw [decide_eq_true (show 128 < 128 + j by omega), Bool.true_and]
theorem norm_two {N : Nat} (j : Nat) (h : N ≠ 0) : normN (N * 2 ^ j) = normN N ∧ lostN (N * 2 ^ j) = lostN N := by
  have hb := blen_two j h
  have hp : 0 < 2 ^ j := Nat.pow_pos (by decide)
  unfold normN lostN
  rw [hb]
  by_cases h1 : blen N < 128
  · rw [if_pos h1, decide_eq_false (show ¬ 128 < blen N by omega), Bool.false_and]
    by_cases h2 : blen N + j < 128
    · rw [if_pos h2, decide_eq_false (show ¬ 128 < blen N + j by omega), Bool.false_and, Nat.mul_assoc, ← Nat.pow_add, show j + (128 - (blen N + j)) = 128 - blen N by omega]
      exact ⟨rfl, rfl⟩
    · have e : 2 ^ j = 2 ^ (128 - blen N) * 2 ^ (blen N + j - 128) := by rw [← Nat.pow_add, show 128 - blen N + (blen N + j - 128) = j by omega]
      have hq : 0 < 2 ^ (blen N + j - 128) := Nat.pow_pos (by decide)
      rw [if_neg h2, e, ← Nat.mul_assoc, Nat.mul_div_cancel _ hq, Nat.mul_mod_left]
      refine ⟨rfl, ?_⟩
      simp
  · have e : 2 ^ (blen N + j - 128) = 2 ^ (blen N - 128) * 2 ^ j := by rw [← Nat.pow_add, show blen N - 128 + j = blen N + j - 128 by omega]
    rw [if_neg h1, if_neg (by omega), e, Nat.mul_div_mul_right _ _ hp, Nat.mul_mod_mul_right]
    refine ⟨rfl, ?_⟩
    by_cases h3 : 128 < blen N
    · rw [decide_eq_true h3, decide_eq_true (show 128 < blen N + j by omega), Bool.true_and, Bool.true_and]
      generalize N % 2 ^ (blen N - 128) = x at *
      generalize 2 ^ j = y at *
      by_cases hx : x = 0
      · rw [hx, Nat.zero_mul]
      · have : x * y ≠ 0 := fun c => by rcases Nat.mul_eq_zero.1 c with c | c; exact hx c; omega
        rw [decide_eq_true this, decide_eq_true hx]
    · rw [decide_eq_false h3, Bool.false_and, show blen N - 128 = 0 by omega, Nat.pow_zero, Nat.mod_one, Nat.zero_mul]
      simp
theorem exactV_two (neg : Bool) {N : Nat} (j : Nat) (e : Int) (r : Bool) : exactV neg (N * 2 ^ j) (e - j) r = exactV neg N e r := by
  have hp : 0 < 2 ^ j := Nat.pow_pos (by decide)
  by_cases h : N = 0
  · subst h; rw [Nat.zero_mul]; unfold exactV; rw [if_pos rfl, if_pos rfl]
  · have h2 : N * 2 ^ j ≠ 0 := fun c => by rcases Nat.mul_eq_zero.1 c with c | c; exact h c; omega
    obtain ⟨a, b⟩ := norm_two j h
    unfold exactV
    rw [if_neg h, if_neg h2, a, b, blen_two j h, show e - (j : Int) + ((blen N + j : Nat) : Int) - 1 = e + (blen N : Int) - 1 by omega]
/-- the first 128 digits of a sum don't hang on a far lesser number -/
theorem far_add (neg : Bool) (s : Int) {M B d : Nat} (hM : Mant M) (hB : 1 ≤ B) (hd : B < 2 ^ d) :
    exactV neg (M * 2 ^ d + B) (s - 127 - d) false = exV 1 neg (heldX s) (M / 2 ^ 64 % 2 ^ 64) (M % 2 ^ 64) true := by
  obtain ⟨m1, m2⟩ := hM
  have hp : 0 < 2 ^ d := Nat.pow_pos (by decide)
  have l1 : 2 ^ (127 + d) ≤ M * 2 ^ d + B := by rw [Nat.pow_add]; exact Nat.le_trans (Nat.mul_le_mul_right _ m1) (Nat.le_add_right _ _)
  have l2 : M * 2 ^ d + B < 2 ^ (128 + d) := by
    rw [Nat.pow_add]
    have := Nat.mul_le_mul_right (2 ^ d) (show M + 1 ≤ 2 ^ 128 from m2)
    rw [Nat.add_mul, Nat.one_mul] at this
    omega
  obtain ⟨b, nn, ll⟩ := norm_at l1 l2
  have e1 : (M * 2 ^ d + B) / 2 ^ d = M := by rw [Nat.mul_comm, Nat.mul_add_div hp, Nat.div_eq_of_lt hd, Nat.add_zero]
  have e2 : (M * 2 ^ d + B) % 2 ^ d = B := by rw [Nat.mul_comm, Nat.mul_add_mod, Nat.mod_eq_of_lt hd]
  unfold exactV
  rw [if_neg (by omega), b, nn, ll, e1, e2, decide_eq_true (show B ≠ 0 by omega), show s - 127 - (d : Int) + ((128 + d : Nat) : Int) - 1 = s by omega]
  rfl
theorem far_sub (neg : Bool) (s : Int) {M B d : Nat} (hM : Mant M) (hB : 1 ≤ B) (hd : B < 2 ^ d) :
    exactV neg (M * 2 ^ (d + 1) - B) (s - 127 - (d + 1 : Nat)) false = if M = 2 ^ 127 then exV 1 neg (heldX (s - 1)) (2 ^ 64 - 1) (2 ^ 64 - 1) true else exV 1 neg (heldX s) ((M - 1) / 2 ^ 64 % 2 ^ 64) ((M - 1) % 2 ^ 64) true := by
  obtain ⟨m1, m2⟩ := hM
  have hp : 0 < 2 ^ d := Nat.pow_pos (by decide)
  by_cases h : M = 2 ^ 127
  · rw [if_pos h]
    have eN : M * 2 ^ (d + 1) - B = (2 ^ 128 - 1) * 2 ^ d + (2 ^ d - B) := by
      rw [h, Nat.pow_succ 2 d, Nat.sub_mul, Nat.one_mul, Nat.mul_comm (2 ^ d) 2, ← Nat.mul_assoc, ← Nat.pow_succ]
      have : 2 ^ d ≤ 2 ^ 128 * 2 ^ d := Nat.le_mul_of_pos_left _ (by decide)
      show 2 ^ 128 * 2 ^ d - B = _
      omega
    have hlt : 2 ^ d - B < 2 ^ d := by omega
    have l1 : 2 ^ (127 + d) ≤ (2 ^ 128 - 1) * 2 ^ d + (2 ^ d - B) := by
      rw [Nat.pow_add]; exact Nat.le_trans (Nat.mul_le_mul_right _ (by decide)) (Nat.le_add_right _ _)
    have l2 : (2 ^ 128 - 1) * 2 ^ d + (2 ^ d - B) < 2 ^ (128 + d) := by
      rw [Nat.pow_add, Nat.sub_mul, Nat.one_mul]
      have : 2 ^ d ≤ 2 ^ 128 * 2 ^ d := Nat.le_mul_of_pos_left _ (by decide)
      omega
    obtain ⟨b, nn, ll⟩ := norm_at l1 l2
    have e1 : ((2 ^ 128 - 1) * 2 ^ d + (2 ^ d - B)) / 2 ^ d = 2 ^ 128 - 1 := by rw [Nat.mul_comm, Nat.mul_add_div hp, Nat.div_eq_of_lt hlt, Nat.add_zero]
    have e2 : ((2 ^ 128 - 1) * 2 ^ d + (2 ^ d - B)) % 2 ^ d = 2 ^ d - B := by rw [Nat.mul_comm, Nat.mul_add_mod, Nat.mod_eq_of_lt hlt]
    rw [eN]
    have h0 : ¬ ((2 ^ 128 - 1) * 2 ^ d + (2 ^ d - B) = 0) := by
      have := Nat.pow_pos (n := 127 + d) (show 0 < 2 by decide); omega
    unfold exactV
    rw [if_neg h0, b, nn, ll, e1, e2, decide_eq_true (show 2 ^ d - B ≠ 0 by omega), show s - 127 - ((d + 1 : Nat) : Int) + ((128 + d : Nat) : Int) - 1 = s - 1 by omega]
    rfl
  · rw [if_neg h]
    have hd2 : 2 ^ d ≤ 2 ^ (d + 1) := Nat.pow_le_pow_right (by decide) (by omega)
    have hp2 : 0 < 2 ^ (d + 1) := Nat.pow_pos (by decide)
    obtain ⟨m, rfl⟩ : ∃ m, M = m + 1 := ⟨M - 1, by have := Nat.pow_pos (n := 127) (show 0 < 2 by decide); omega⟩
    rw [Nat.add_sub_cancel]
    have hm1 : 2 ^ 127 ≤ m := by omega
    have hm2 : m + 1 ≤ 2 ^ 128 := by omega
    generalize hD : d + 1 = D at *
    have eN : (m + 1) * 2 ^ D - B = m * 2 ^ D + (2 ^ D - B) := by rw [Nat.add_mul, Nat.one_mul]; omega
    have hlt : 2 ^ D - B < 2 ^ D := by omega
    have l1 : 2 ^ (127 + D) ≤ m * 2 ^ D + (2 ^ D - B) := by
      rw [Nat.pow_add]; exact Nat.le_trans (Nat.mul_le_mul_right _ hm1) (Nat.le_add_right _ _)
    have l2 : m * 2 ^ D + (2 ^ D - B) < 2 ^ (128 + D) := by
      rw [Nat.pow_add]
      have := Nat.mul_le_mul_right (2 ^ D) hm2
      rw [Nat.add_mul, Nat.one_mul] at this
      omega
    obtain ⟨b, nn, ll⟩ := norm_at l1 l2
    have e1 : (m * 2 ^ D + (2 ^ D - B)) / 2 ^ D = m := by rw [Nat.mul_comm, Nat.mul_add_div hp2, Nat.div_eq_of_lt hlt, Nat.add_zero]
    have e2 : (m * 2 ^ D + (2 ^ D - B)) % 2 ^ D = 2 ^ D - B := by rw [Nat.mul_comm, Nat.mul_add_mod, Nat.mod_eq_of_lt hlt]
    rw [eN]
    have h0 : ¬ (m * 2 ^ D + (2 ^ D - B) = 0) := by
      have := Nat.pow_pos (n := 127 + D) (show 0 < 2 by decide); omega
    unfold exactV
    rw [if_neg h0, b, nn, ll, e1, e2, decide_eq_true (show 2 ^ D - B ≠ 0 by omega), show s - 127 - (D : Int) + ((128 + D : Nat) : Int) - 1 = s by omega]
    rfl
end Go.Proofs.Ytheliihkkoohnab

namespace Go.Proofs.Ytheliihkkoohnab
set_option maxRecDepth 100000
set_option linter.unusedVariables false
set_option linter.unusedSimpArgs false

/-! ### sums as whole numbers times a power of 2 (plain mathematics) -/
/-- a whole number times 2^e, its first 128 digits -/
def exI (T : Int) (e : Int) : Value := exactV (decide (T < 0)) T.natAbs e false
def sg (neg : Bool) (N : Nat) : Int := if neg then -(N : Int) else N
theorem exactV_zero (neg : Bool) (e : Int) (r : Bool) : exactV neg 0 e r = exV 0 false 0 0 0 false := by unfold exactV; rw [if_pos rfl]
theorem exI_sg (neg : Bool) (N : Nat) (e : Int) : exI (sg neg N) e = exactV neg N e false := by
  by_cases h : N = 0
  · subst h
    have : sg neg 0 = 0 := by unfold sg; cases neg <;> rfl
    rw [this, exactV_zero]
    show exactV _ 0 e false = _
    rw [exactV_zero]
  · unfold exI sg
    cases neg
    · rw [if_neg (by decide), Int.natAbs_natCast, decide_eq_false (by omega)]
    · rw [if_pos rfl, Int.natAbs_neg, Int.natAbs_natCast, decide_eq_true (by omega)]
theorem sg_mul (neg : Bool) (N c : Nat) : sg neg (N * c) = sg neg N * c := by unfold sg; cases neg <;> simp [Int.neg_mul]
theorem exI_two (T : Int) (j : Nat) (e : Int) : exI (T * ((2 ^ j : Nat) : Int)) (e - j) = exI T e := by
  have h : ∃ neg N, T = sg neg N := by
    by_cases h : T < 0
    · exact ⟨true, T.natAbs, by unfold sg; rw [if_pos rfl]; omega⟩
    · exact ⟨false, T.natAbs, by unfold sg; rw [if_neg (by decide)]; omega⟩
  obtain ⟨neg, N, rfl⟩ := h
  rw [← sg_mul, exI_sg, exI_sg, exactV_two]
def farD : Nat := 400
theorem farD_eq : farD = 400 := rfl
/-- what the document's Sum answers where the first scale is no less -/
def sumD (neg : Bool) (s : Int) (M : Nat) (neg' : Bool) (s' : Int) (M' : Nat) : Value :=
  let d := if 400 < s - s' then farD else (s - s').toNat
  let b := if 400 < s - s' then 1 else M'
  if neg = neg' then exactV neg (M * 2 ^ d + b) (s - 127 - d) false
  else if b ≤ M * 2 ^ d then exactV neg (M * 2 ^ d - b) (s - 127 - d) false
  else exactV neg' (b - M * 2 ^ d) (s - 127 - d) false
/-- without the bound on the distance -/
theorem sumD_near (neg : Bool) (s : Int) (M : Nat) (neg' : Bool) (s' : Int) (M' : Nat) (hM : Mant M) (hM' : Mant M') (h : s' ≤ s) (d : Nat) (hd : (d : Int) = s - s') :
    sumD neg s M neg' s' M' = if neg = neg' then exactV neg (M * 2 ^ d + M') (s - 127 - d) false else if M' ≤ M * 2 ^ d then exactV neg (M * 2 ^ d - M') (s - 127 - d) false else exactV neg' (M' - M * 2 ^ d) (s - 127 - d) false := by
  unfold sumD
  by_cases hf : 400 < s - s'
  · simp only [if_pos hf]
    have hd4 : 400 < d := by omega
    obtain ⟨m1, m2⟩ := hM'
    have m0 : 1 ≤ M' := Nat.le_trans Nat.one_le_two_pow m1
    have hlt : ∀ k, 128 ≤ k → M' < 2 ^ k := fun k hk => Nat.lt_of_lt_of_le m2 (Nat.pow_le_pow_right (by decide) hk)
    have h1k : ∀ k, 1 ≤ k → 1 < 2 ^ k := fun k hk => Nat.lt_of_lt_of_le (by decide : 1 < 2 ^ 1) (Nat.pow_le_pow_right (by decide) hk)
    have hbig : ∀ k B, 128 ≤ k → B < 2 ^ k → B ≤ M * 2 ^ k := fun k B hk hB => Nat.le_trans (Nat.le_of_lt hB) (Nat.le_mul_of_pos_left _ (by have := hM.1; have := Nat.pow_pos (n := 127) (show 0 < 2 by decide); omega))
    by_cases hn : neg = neg'
    · rw [if_pos hn, if_pos hn]
      have a := far_add neg s (M := M) (B := 1) (d := farD) hM (Nat.le_refl _) (h1k farD (by rw [farD_eq]; omega))
      have b := far_add neg s (M := M) (B := M') (d := d) hM m0 (hlt _ (by omega))
      rw [b]
      exact a
    · rw [if_neg hn, if_neg hn, if_pos (hbig farD 1 (by rw [farD_eq]; omega) (h1k farD (by rw [farD_eq]; omega))), if_pos (hbig d M' (by omega) (hlt _ (by omega)))]
      have a := far_sub neg s (M := M) (B := 1) (d := farD - 1) hM (Nat.le_refl _) (h1k (farD - 1) (by rw [farD_eq]; omega))
      rw [show farD - 1 + 1 = farD by rw [farD_eq]] at a
      have b := far_sub neg s (M := M) (B := M') (d := d - 1) hM m0 (hlt _ (by omega))
      rw [show d - 1 + 1 = d by omega] at b
      rw [b]
      exact a
  · simp only [if_neg hf]
    rw [show (s - s').toNat = d by omega]
theorem sg_add (neg : Bool) (A B : Nat) : sg neg A + sg neg B = sg neg (A + B) := by unfold sg; cases neg <;> simp <;> omega
theorem sg_sub (neg neg' : Bool) (A B : Nat) (h : neg ≠ neg') : sg neg A + sg neg' B = if B ≤ A then sg neg (A - B) else sg neg' (B - A) := by
  unfold sg
  cases neg <;> cases neg' <;> simp at h ⊢ <;> split <;> omega
/-- it is the sum of two whole numbers times a power of 2 -/
theorem sumD_int (neg : Bool) (s : Int) (M : Nat) (neg' : Bool) (s' : Int) (M' : Nat) (hM : Mant M) (hM' : Mant M') (h : s' ≤ s) (e : Int) (j j' : Nat) (hj : e + j = s) (hj' : e + j' = s') :
    sumD neg s M neg' s' M' = exI (sg neg M * ((2 ^ j : Nat) : Int) + sg neg' M' * ((2 ^ j' : Nat) : Int)) (e - 127) := by
  obtain ⟨d, hd⟩ : ∃ d : Nat, (d : Int) = s - s' := ⟨(s - s').toNat, by omega⟩
  rw [sumD_near neg s M neg' s' M' hM hM' h d hd]
  have hjd : j = d + j' := by omega
  have e1 : sg neg M * ((2 ^ j : Nat) : Int) + sg neg' M' * ((2 ^ j' : Nat) : Int) = (sg neg (M * 2 ^ d) + sg neg' M') * ((2 ^ j' : Nat) : Int) := by
    rw [hjd, Nat.pow_add, sg_mul, Int.add_mul, Int.natCast_mul, Int.mul_assoc]
  have e2 : e - 127 = s - 127 - d - j' := by omega
  rw [e1, e2, exI_two]
  by_cases hn : neg = neg'
  · subst hn
    rw [if_pos rfl, sg_add, exI_sg]
  · rw [if_neg hn, sg_sub _ _ _ _ hn]
    split
    · rw [exI_sg]
    · rw [exI_sg]
/-- the document's Sum of two numbers -/
def sumR (neg : Bool) (s : Int) (M : Nat) (neg' : Bool) (s' : Int) (M' : Nat) : Value := if s < s' then sumD neg' s' M' neg s M else sumD neg s M neg' s' M'
theorem sumR_int (neg : Bool) (s : Int) (M : Nat) (neg' : Bool) (s' : Int) (M' : Nat) (hM : Mant M) (hM' : Mant M') (e : Int) (j j' : Nat) (hj : e + j = s) (hj' : e + j' = s') :
    sumR neg s M neg' s' M' = exI (sg neg M * ((2 ^ j : Nat) : Int) + sg neg' M' * ((2 ^ j' : Nat) : Int)) (e - 127) := by
  unfold sumR
  by_cases h : s < s'
  · rw [if_pos h, sumD_int neg' s' M' neg s M hM' hM (by omega) e j' j hj' hj, Int.add_comm]
  · rw [if_neg h, sumD_int neg s M neg' s' M' hM hM' (by omega) e j j' hj hj']
/-- a number itself -/
theorem exI_real (neg : Bool) (s : Int) (hi lo : Nat) (h : WordsX hi lo) (hs : -1099511627776 ≤ s ∧ s ≤ 1099511627776) (e : Int) (j : Nat) (hj : e + j = s) :
    exI (sg neg (manX hi lo) * ((2 ^ j : Nat) : Int)) (e - 127) = exV 1 neg s hi lo false := by
  rw [show e - 127 = s - 127 - j by omega, exI_two, exI_sg]
  have hm := h.mant
  obtain ⟨b, nn, ll⟩ := @norm_at (manX hi lo) 0 hm.1 hm.2
  have h0 : manX hi lo ≠ 0 := by have := hm.1; have := Nat.pow_pos (n := 127) (show 0 < 2 by decide); omega
  unfold exactV
  rw [if_neg h0, b, nn, ll, Nat.pow_zero, Nat.div_one, Nat.mod_one]
  obtain ⟨a1, a2, a3⟩ := h
  have hx : heldX (s - 127 + ((128 + 0 : Nat) : Int) - 1) = s := by unfold heldX; rw [if_neg (by omega), if_neg (by omega)]; omega
  have w1 : manX hi lo / 2 ^ 64 % 2 ^ 64 = hi := by unfold manX; omega
  have w2 : manX hi lo % 2 ^ 64 = lo := by unfold manX; omega
  rw [hx, w1, w2]
  rfl
end Go.Proofs.Ytheliihkkoohnab

namespace Go.Proofs.Ytheliihkkoohnab
set_option maxRecDepth 100000
set_option linter.unusedVariables false
set_option linter.unusedSimpArgs false

/-! ### rounding whole numbers times a power of 2: it rises (plain mathematics) -/
theorem zX_rise {s s' : Int} {hi lo hi' lo' : Nat} {r r' : Bool} (h : WordsX hi lo) (h' : WordsX hi' lo') (h1 : -316 ≤ s) (h2 : s' < 312)
    (hle : s < s' ∨ (s = s' ∧ 2 * manX hi lo + r.toNat ≤ 2 * manX hi' lo' + r'.toNat)) : zX s hi lo r ≤ zX s' hi' lo' r' := by
  unfold zX
  have b1 : r.toNat ≤ 1 := by cases r <;> decide
  rcases hle with hl | ⟨rfl, hM⟩
  · have := zed_lt h.mant h'.mant h1 h2 (.inl hl)
    omega
  · rcases Nat.lt_or_ge (manX hi lo) (manX hi' lo') with c | c
    · have := zed_lt h.mant h'.mant h1 h2 (.inr ⟨rfl, c⟩)
      omega
    · have b2 : r'.toNat ≤ 1 := by cases r' <;> decide
      have e : manX hi lo = manX hi' lo' := by omega
      rw [e] at hM ⊢
      omega
theorem rnd_riseR (n : Nat) (s s' : Int) (hi lo hi' lo' : Nat) (r r' : Bool) (hn : Wd n) (h : WordsX hi lo) (h' : WordsX hi' lo')
    (hle : s < s' ∨ (s = s' ∧ 2 * manX hi lo + r.toNat ≤ 2 * manX hi' lo' + r'.toNat)) : rndX n s hi lo r ≤ rndX n s' hi' lo' r' := by
  have r1 := rnd_range n s hi lo r hn h
  have r2 := rnd_range n s' hi' lo' r' hn h'
  have hw := wd_le hn
  rcases mid_or n s (justX hi lo r) with hm | c1 | ⟨c0, c1⟩
  · rcases mid_or n s' (justX hi' lo' r') with hm' | c2 | ⟨c3, c2⟩
    · rw [(rnd_mid n s hi lo r hn h hm).1, (rnd_mid n s' hi' lo' r' hn h' hm').1]
      obtain ⟨a1, a2, _⟩ := hm
      obtain ⟨b1, b2, _⟩ := hm'
      exact rhe_mono _ (Nat.pow_pos (by decide)) (zX_rise h h' (by omega) (by omega) hle)
    · rw [rnd_top n s' hi' lo' r' c2]; exact r1.2
    · exfalso
      obtain ⟨a1, a2, a3⟩ := hm
      have hs : s = 8 - 4 * (n : Int) ∧ s' = s := by
        clear r1 r2 a3 h h'
        rcases hle with hl | ⟨hl, _⟩ <;> rcases c2 with c2 | ⟨c2, _⟩ <;> omega
      have hM : 2 * manX hi lo + r.toNat ≤ 2 * manX hi' lo' + r'.toNat := by
        rcases hle with hl | ⟨_, hl⟩
        · exfalso; clear r1 r2 a3 h h' c2; omega
        · exact hl
      have hj : justX hi' lo' r' = true := by
        rcases c2 with c2 | ⟨_, c2⟩
        · exfalso; clear r1 r2 a3 h h' hM; omega
        · exact c2
      obtain ⟨e0, e1⟩ := (justX_iff h' r').1 hj
      have h3 := h.mant.1
      rw [e0, e1] at hM
      have hr : r = false := by
        cases r
        · rfl
        · exfalso; simp only [Bool.toNat_true, Bool.toNat_false] at hM; omega
      refine a3 ⟨hs.1, (justX_iff h r).2 ⟨hr, ?_⟩⟩
      rw [hr] at hM
      simp only [Bool.toNat_false] at hM
      omega
  · have c2 : 4 * (n : Int) - 8 ≤ s' := by clear r1 r2 h h'; omega
    rw [rnd_top n s' hi' lo' r' c2]; exact r1.2
  · rw [rnd_low n s hi lo r c0 c1]; exact r2.1
/-- a whole number above 0 times 2^e, rounded -/
def mgI (n N : Nat) (e : Int) (r : Bool) : Nat := rndX n (heldX (e + blen N - 1)) (normN N / 2 ^ 64 % 2 ^ 64) (normN N % 2 ^ 64) (r || lostN N)
theorem man_norm {N : Nat} (h : N ≠ 0) : manX (normN N / 2 ^ 64 % 2 ^ 64) (normN N % 2 ^ 64) = normN N := by
  have h2 := (normN_mant h).2
  unfold manX
  generalize normN N = M at *
  omega
theorem blen_mono {N N' : Nat} (h : N ≤ N') : blen N ≤ blen N' := blen_le.2 (Nat.lt_of_le_of_lt h (blen_hi N'))
theorem norm_mono {N N' : Nat} (h : N ≤ N') (hb : blen N = blen N') : 2 * normN N + (lostN N).toNat ≤ 2 * normN N' + (lostN N').toNat := by
  unfold normN lostN
  rw [← hb]
  by_cases h1 : blen N < 128
  · rw [if_pos h1, if_pos h1, decide_eq_false (show ¬ 128 < blen N by omega), Bool.false_and, Bool.false_and]
    exact Nat.add_le_add_right (Nat.mul_le_mul_left 2 (Nat.mul_le_mul_right _ h)) _
  · rw [if_neg h1, if_neg h1]
    generalize decide (128 < blen N) = c
    have hp : 0 < 2 ^ (blen N - 128) := Nat.pow_pos (by decide)
    generalize 2 ^ (blen N - 128) = G at *
    have e1 := Nat.div_add_mod N G
    have e2 := Nat.div_add_mod N' G
    have hq : N / G ≤ N' / G := Nat.div_le_div_right h
    have b1 : (c && decide (N % G ≠ 0)).toNat ≤ 1 := by generalize (c && decide (N % G ≠ 0)) = x; cases x <;> decide
    rcases Nat.lt_or_ge (N / G) (N' / G) with hl | hg
    · omega
    · have e : N / G = N' / G := by omega
      rw [e] at e1 ⊢
      refine Nat.add_le_add_left ?_ _
      cases c
      · exact Nat.le_refl _
      · by_cases hz : N % G = 0
        · rw [decide_eq_false (fun x => x hz)]
          exact Nat.zero_le _
        · have : N' % G ≠ 0 := by omega
          rw [decide_eq_true hz, decide_eq_true this]
          exact Nat.le_refl _
/-- far from the bounds on scales -/
def Near (N : Nat) (e : Int) : Prop := -1099511627776 ≤ e - 1 ∧ e + blen N ≤ 1099511627776
theorem near_held {N : Nat} {e : Int} (h : Near N e) : heldX (e + blen N - 1) = e + blen N - 1 := by
  obtain ⟨a, b⟩ := h
  unfold heldX; rw [if_neg (by omega), if_neg (by omega)]
theorem near_le {N N' : Nat} {e : Int} (h : Near N' e) (hl : N ≤ N') : Near N e := by
  have := blen_mono hl
  obtain ⟨a, b⟩ := h
  exact ⟨a, by omega⟩
theorem mgI_mono {n N N' : Nat} {e : Int} (hn : Wd n) (h0 : N ≠ 0) (h : N ≤ N') (hr : Near N' e) : mgI n N e false ≤ mgI n N' e false := by
  have h0' : N' ≠ 0 := by omega
  have hb := blen_mono h
  unfold mgI
  rw [near_held hr, near_held (near_le hr h), Bool.false_or, Bool.false_or]
  refine rnd_riseR n _ _ _ _ _ _ _ _ hn (normN_words h0) (normN_words h0') ?_
  rcases Nat.lt_or_ge (blen N) (blen N') with c | c
  · exact .inl (by omega)
  · have e1 : blen N = blen N' := by omega
    refine .inr ⟨by rw [e1], ?_⟩
    rw [man_norm h0, man_norm h0']
    exact norm_mono h e1
theorem mgI_range {n N : Nat} (e : Int) (r : Bool) (hn : Wd n) (h0 : N ≠ 0) : 1 ≤ mgI n N e r ∧ mgI n N e r ≤ 2 ^ (n - 1) - 1 := rnd_range n _ _ _ _ hn (normN_words h0)
/-- the rank, and the pattern, of a whole number times 2^e -/
def rkI (n : Nat) (T e : Int) : Int := if T = 0 then 0 else if T < 0 then -(mgI n T.natAbs e false : Int) else mgI n T.natAbs e false
def patI (n : Nat) (T e : Int) : Nat := if T = 0 then 0 else patR n (decide (T < 0)) (mgI n T.natAbs e false)
theorem rkI_mono {n : Nat} {T T' e : Int} (hn : Wd n) (h : T ≤ T') (hr : Near T.natAbs e) (hr' : Near T'.natAbs e) : rkI n T e ≤ rkI n T' e := by
  unfold rkI
  by_cases h1 : T = 0
  · rw [if_pos h1]
    by_cases h2 : T' = 0
    · rw [if_pos h2]; exact Int.le_refl _
    · rw [if_neg h2, if_neg (by omega)]; omega
  · rw [if_neg h1]
    by_cases h3 : T < 0
    · rw [if_pos h3]
      have a := (mgI_range e false hn (show T.natAbs ≠ 0 by omega)).1
      by_cases h2 : T' = 0
      · rw [if_pos h2]; omega
      · rw [if_neg h2]
        by_cases h4 : T' < 0
        · rw [if_pos h4]
          have := mgI_mono hn (show T'.natAbs ≠ 0 by omega) (show T'.natAbs ≤ T.natAbs by omega) hr
          omega
        · rw [if_neg h4]; omega
    · rw [if_neg h3, if_neg (by omega), if_neg (by omega)]
      have := mgI_mono hn (show T.natAbs ≠ 0 by omega) (show T.natAbs ≤ T'.natAbs by omega) hr'
      omega
theorem patI_rank {n : Nat} (T e : Int) (hn : Wd n) : extOf (patI n T e) n = rkI n T e := by
  unfold patI rkI
  by_cases h1 : T = 0
  · rw [if_pos h1, if_pos h1]; exact extOf_nought n
  · rw [if_neg h1, if_neg h1]
    obtain ⟨a, b⟩ := mgI_range e false hn (show T.natAbs ≠ 0 by omega)
    rw [extOf_patR n hn _ _ a b]
    by_cases h2 : T < 0
    · rw [decide_eq_true h2, if_pos rfl, if_pos h2]
    · rw [decide_eq_false h2, if_neg (by decide), if_neg h2]
end Go.Proofs.Ytheliihkkoohnab

namespace Go.Proofs.Ytheliihkkoohnab
open Go.ChangeShapes Go.WideShapes Go.ChangeAt Go.RowKit
set_option linter.unusedVariables false
set_option linter.unusedSimpArgs false
set_option maxRecDepth 100000

/-! ### ranks, neighbours, signs: what is answered -/
def cmpR (n a b : Nat) : Int := if extOf a n < extOf b n then -1 else if extOf a n > extOf b n then 1 else 0
def negO (n p : Nat) : Nat := minusU p % 2 ^ n
def narB (n p : Nat) : Bool := decide (p % 2 ^ n = 2 ^ (n - 1))
theorem cmpR_cases (n a b : Nat) : (cmpR n a b = -1 ∧ extOf a n < extOf b n) ∨ (cmpR n a b = 1 ∧ extOf b n < extOf a n) ∨ (cmpR n a b = 0 ∧ extOf a n = extOf b n) := by
  unfold cmpR
  by_cases h : extOf a n < extOf b n
  · rw [if_pos h]; exact .inl ⟨rfl, h⟩
  · rw [if_neg h]
    by_cases h2 : extOf a n > extOf b n
    · rw [if_pos h2]; exact .inr (.inl ⟨rfl, h2⟩)
    · rw [if_neg h2]; exact .inr (.inr ⟨rfl, by omega⟩)
theorem cmps8_ok (n a b : Nat) (hn : Wd n) (w : World) :
    Calls Try.prog 19 #[.int .i64 n, .int .u64 a, .int .u64 b] w fun e w' => e = .returned (.tuple #[.int .i64 (cmpR n a b), .int .i64 0]) ∧ Below w.heap.size w w' := by
  have k1 := rrank_ok n a hn
  have k2 := rrank_ok n b hn
  clear hn
  have hc := cmpR_cases n a b
  generalize cmpR n a b = c at *
  generalize extOf a n = x at *
  generalize extOf b n = y at *
  refine cps fun Q hQ => ?_
  rcases hc with ⟨rfl, h⟩ | ⟨rfl, h⟩ | ⟨rfl, h⟩
  · have d1 : decide (x < y) = true := decide_eq_true h
    clear h
    go_enter Try.func19, Try.ntmps19
    go_wp2_with (first
      | (go_at_call_of 32 a; refine (k1 _).mono ?_; rintro e w1 ⟨rfl, hb1⟩)
      | (go_at_call 32; refine (k2 _).mono ?_; rintro e w2 ⟨rfl, hb2⟩))
    exact hQ.out _ _ ⟨rfl, bthenS hb1 hb2⟩
  · have d1 : decide (x < y) = false := decide_eq_false (by omega)
    have d2 : decide (y < x) = true := decide_eq_true h
    clear h
    go_enter Try.func19, Try.ntmps19
    go_wp2_with (first
      | (go_at_call_of 32 a; refine (k1 _).mono ?_; rintro e w1 ⟨rfl, hb1⟩)
      | (go_at_call 32; refine (k2 _).mono ?_; rintro e w2 ⟨rfl, hb2⟩))
    exact hQ.out _ _ ⟨rfl, bthenS hb1 hb2⟩
  · have d1 : decide (x < y) = false := decide_eq_false (by omega)
    have d2 : decide (y < x) = false := decide_eq_false (by omega)
    clear h
    go_enter Try.func19, Try.ntmps19
    go_wp2_with (first
      | (go_at_call_of 32 a; refine (k1 _).mono ?_; rintro e w1 ⟨rfl, hb1⟩)
      | (go_at_call 32; refine (k2 _).mono ?_; rintro e w2 ⟨rfl, hb2⟩))
    exact hQ.out _ _ ⟨rfl, bthenS hb1 hb2⟩
theorem cmp8_ok (n a b : Nat) (hn : Wd n) (w : World) :
    Calls Try.prog 10 #[.int .i64 n, .int .u64 a, .int .u64 b] w fun e w' => e = .returned (.int .i64 (cmpR n a b)) ∧ Below w.heap.size w w' := by
  have k1 := cmps8_ok n a b hn
  clear hn
  generalize cmpR n a b = c at *
  refine cps fun Q hQ => ?_
  go_enter Try.func10, Try.ntmps10
  go_wp2_with (go_at_call 19; refine (k1 _).mono ?_; rintro e w1 ⟨rfl, hb1⟩)
  exact hQ.out _ _ ⟨rfl, hb1⟩
/-! ### steps -/
end Go.Proofs.Ytheliihkkoohnab

namespace Go.Proofs.Ytheliihkkoohnab
open Go.ChangeShapes Go.WideShapes Go.ChangeAt Go.RowKit
set_option linter.unusedVariables false
set_option linter.unusedSimpArgs false
set_option maxRecDepth 100000

end Go.Proofs.Ytheliihkkoohnab

namespace Go.Proofs.Ytheliihkkoohnab
open Go.ChangeShapes Go.WideShapes Go.ChangeAt Go.RowKit
set_option linter.unusedVariables false
set_option linter.unusedSimpArgs false
set_option maxRecDepth 100000

/-! ### ranks (plain mathematics) -/
theorem extOf_val (n x : Nat) (hn : Wd n) : extOf x n = if x % 2 ^ n < 2 ^ (n - 1) then ((x % 2 ^ n : Nat) : Int) else ((x % 2 ^ n : Nat) : Int) - ((2 ^ n : Nat) : Int) := by
  obtain ⟨H, h1, h2, h3, _⟩ := wd_pows hn
  have hw := wd_le hn
  have hm := Nat.mod_lt x (show 0 < 2 ^ n by omega)
  have ht := top_of n _ hn hm
  rw [← testBit_low x n (by omega)] at ht
  unfold extOf
  rw [ht]
  by_cases h : x % 2 ^ n < 2 ^ (n - 1)
  · rw [if_pos h, decide_eq_false (by omega)]; simp
  · rw [if_neg h, decide_eq_true (by omega)]; simp
theorem rank_mod (n x : Nat) (hn : Wd n) : extOf (x % 2 ^ n) n = extOf x n := by
  rw [extOf_val n _ hn, extOf_val n x hn, Nat.mod_mod]
theorem rank_neg (n p : Nat) (hn : Wd n) (hp : p < 2 ^ 64) (hk : narB n p = false) : extOf (negO n p) n = -extOf p n := by
  obtain ⟨H, h1, h2, h3, _⟩ := wd_pows hn
  have hm := Nat.mod_lt p (show 0 < 2 ^ n by omega)
  unfold negO
  rw [minusU_mod n p hn hp, extOf_val n _ hn, extOf_val n p hn, Nat.mod_mod]
  unfold narB at hk
  have hk2 : ¬ p % 2 ^ n = 2 ^ (n - 1) := of_decide_eq_false hk
  rw [h1, h2] at *
  generalize p % (2 * H) = y at *
  by_cases h : y = 0
  · subst h; rw [Nat.sub_zero, Nat.mod_self, if_pos (by omega)]; simp
  · rw [Nat.mod_eq_of_lt (a := 2 * H - y) (by omega)]
    split <;> split <;> omega
end Go.Proofs.Ytheliihkkoohnab

namespace Go.Proofs.Ytheliihkkoohnab
open Go.ChangeShapes Go.WideShapes Go.ChangeAt Go.RowKit
set_option linter.unusedVariables false
set_option linter.unusedSimpArgs false
set_option maxRecDepth 100000

/-! ### ties (plain mathematics) -/
end Go.Proofs.Ytheliihkkoohnab

namespace Go.Proofs.Ytheliihkkoohnab
open Go.ChangeShapes Go.WideShapes Go.ChangeAt Go.RowKit
set_option linter.unusedVariables false
set_option linter.unusedSimpArgs false
set_option maxRecDepth 100000

/-! ### the order of ranks is the order of values -/
theorem rank_zero (n x : Nat) (hn : Wd n) (hk : x % 2 ^ n = 0) : extOf x n = 0 := by rw [← rank_mod n x hn, hk, extOf_nought]
def vK (n x : Nat) : Int := kindOf n (x % 2 ^ n)
def vB (n x : Nat) : Bool := if kindOf n (x % 2 ^ n) = 1 then x.testBit (n - 1) else false
def vS (n x : Nat) : Int := if kindOf n (x % 2 ^ n) = 1 then scaleL (strS n x) else 0
def vF (n x : Nat) : Nat := if kindOf n (x % 2 ^ n) = 1 then wordL (strS n x) else 0
theorem sound_v (n x : Nat) (hn : Wd n) (hx : x < 2 ^ 64) : soundN (vK n x) (vB n x) (vS n x) (vF n x) = true := by
  unfold vK vB vS vF
  by_cases hk : kindOf n (x % 2 ^ n) = 1
  · rw [if_pos hk, if_pos hk, if_pos hk, hk]
    exact sound_home n _ _ hn (strS_length n x) (patOf_str n x hn hx hk).1
  · rw [if_neg hk, if_neg hk, if_neg hk]
    rcases kind_cases n _ hk with ⟨h, _⟩ | ⟨h, _⟩ <;> rw [h] <;> rfl
theorem narB_kind (n x : Nat) (hn : Wd n) : narB n x = decide (vK n x = 2) := by
  obtain ⟨H, h1, h2, h3, _⟩ := wd_pows hn
  unfold narB vK kindOf
  rw [h2]
  by_cases h : x % 2 ^ n = 0
  · rw [if_pos h, h, decide_eq_false (by omega)]; rfl
  · rw [if_neg h]
    by_cases h4 : x % 2 ^ n = H
    · rw [if_pos h4, decide_eq_true h4]; rfl
    · rw [if_neg h4, decide_eq_false h4]; rfl
end Go.Proofs.Ytheliihkkoohnab

namespace Go.Proofs.Ytheliihkkoohnab
set_option maxRecDepth 100000
set_option linter.unusedVariables false
set_option linter.unusedSimpArgs false

/-! ### what patterns mean, as whole numbers times 2^(-375) (plain mathematics) -/
def eN : Int := -375
def valI (n x : Nat) : Int := if vK n x = 1 then sg (vB n x) (manX (vF n x) 0) * ((2 ^ (vS n x + 248).toNat : Nat) : Int) else 0
theorem v_real (n x : Nat) (hn : Wd n) (hx : x < 2 ^ 64) (hk : vK n x = 1) : vB n x = x.testBit (n - 1) ∧ vS n x = scaleL (strS n x) ∧ vF n x = wordL (strS n x) ∧ true ∈ strS n x ∧ (strS n x).length = n - 1 ∧ kindOf n (x % 2 ^ n) = 1 ∧ WordsX (vF n x) 0 ∧ 8 - 4 * (n : Int) ≤ vS n x ∧ vS n x ≤ 4 * n - 8 := by
  have hk' : kindOf n (x % 2 ^ n) = 1 := hk
  obtain ⟨ht, hp⟩ := patOf_str n x hn hx hk'
  have e1 : vB n x = x.testBit (n - 1) := by unfold vB; rw [if_pos hk']
  have e2 : vS n x = scaleL (strS n x) := by unfold vS; rw [if_pos hk']
  have e3 : vF n x = wordL (strS n x) := by unfold vF; rw [if_pos hk']
  refine ⟨e1, e2, e3, ht, strS_length n x, hk', by rw [e3]; exact words_of _, ?_⟩
  rw [e2]
  have := of_decide_eq_true (inR_of n _ hn (strS_length n x) ht)
  exact ⟨by omega, by omega⟩
theorem v_kinds (n x : Nat) (hn : Wd n) : vK n x = 0 ∧ x % 2 ^ n = 0 ∨ vK n x = 1 ∨ vK n x = 2 ∧ x % 2 ^ n = 2 ^ (n - 1) := by
  by_cases hk : kindOf n (x % 2 ^ n) = 1
  · exact .inr (.inl hk)
  · rcases kind_cases n _ hk with ⟨h, h2⟩ | ⟨h, h2⟩
    · exact .inl ⟨h, h2⟩
    · exact .inr (.inr ⟨h, h2⟩)
/-- a real's value, ahead of its rounding -/
theorem val_real (n x : Nat) (hn : Wd n) (hx : x < 2 ^ 64) (hk : vK n x = 1) : exI (valI n x) eN = exV 1 (vB n x) (vS n x) (vF n x) 0 false := by
  obtain ⟨_, _, _, _, _, _, hwd, h1, h2⟩ := v_real n x hn hx hk
  have hw := wd_le hn
  unfold valI
  rw [if_pos hk]
  have e := exI_real (vB n x) (vS n x) (vF n x) 0 hwd (by omega) (-248) (vS n x + 248).toNat (by omega)
  rw [show (-248 : Int) - 127 = eN from rfl] at e
  exact e
theorem val_zero (n x : Nat) (hk : vK n x ≠ 1) : valI n x = 0 := by unfold valI; rw [if_neg hk]
theorem sg_abs (neg : Bool) (N : Nat) : (sg neg N).natAbs = N := by unfold sg; cases neg <;> simp
theorem blen_add {N N' k : Nat} (h : blen N ≤ k) (h' : blen N' ≤ k) : blen (N + N') ≤ k + 1 := by
  have a := blen_le.1 h
  have b := blen_le.1 h'
  exact blen_le.2 (by rw [Nat.pow_succ]; omega)
theorem val_blen (n x : Nat) (hn : Wd n) (hx : x < 2 ^ 64) : blen (valI n x).natAbs ≤ 624 := by
  by_cases hk : vK n x = 1
  · obtain ⟨_, _, _, _, _, _, hwd, h1, h2⟩ := v_real n x hn hx hk
    have hw := wd_le hn
    unfold valI
    rw [if_pos hk, Int.natAbs_mul, sg_abs, Int.natAbs_natCast]
    have hm : (vS n x + 248).toNat ≤ 496 := by omega
    generalize (vS n x + 248).toNat = m at *
    have : blen (manX (vF n x) 0 * 2 ^ m) ≤ 128 + m := blen_le.2 (by rw [Nat.pow_add]; exact Nat.mul_lt_mul_of_pos_right hwd.mant.2 (Nat.pow_pos (by decide)))
    omega
  · rw [val_zero n x hk]
    show blen 0 ≤ 624
    rw [blen_zero]; omega
theorem near_of {N : Nat} {e : Int} (h : blen N ≤ 10000) (he : -100000 ≤ e ∧ e ≤ 100000) : Near N e := ⟨by omega, by omega⟩
theorem abs_add (T T' : Int) {k : Nat} (h : blen T.natAbs ≤ k) (h' : blen T'.natAbs ≤ k) : blen (T + T').natAbs ≤ k + 1 :=
  Nat.le_trans (blen_mono (show (T + T').natAbs ≤ T.natAbs + T'.natAbs by omega)) (blen_add h h')
theorem val_inj {k k' : Int} {neg neg' : Bool} {s s' : Int} {hi lo hi' lo' : Nat} {r r' : Bool} (h : exV k neg s hi lo r = exV k' neg' s' hi' lo' r') : neg = neg' ∧ s = s' ∧ hi = hi' ∧ lo = lo' ∧ r = r' := by
  unfold exV at h
  simp only [Value.agg.injEq, Array.mk.injEq, List.cons.injEq, Value.int.injEq, Value.bool.injEq, true_and, and_true] at h
  obtain ⟨_, h1, h2, h3, h4, h5⟩ := h
  exact ⟨h1, h2, by omega, by omega, h5⟩
/-- the magnitude that is rounded, from the number ahead of its rounding -/
theorem patI_of {n : Nat} {T e : Int} {neg : Bool} {s : Int} {hi lo : Nat} {r : Bool} (h0 : T ≠ 0) (h : exI T e = exV 1 neg s hi lo r) : patI n T e = patR n neg (rndX n s hi lo r) := by
  unfold exI exactV at h
  rw [if_neg (by omega)] at h
  obtain ⟨h1, h2, h3, h4, h5⟩ := val_inj h
  unfold patI mgI
  rw [if_neg h0, h1, h2, h3, h4, h5]
theorem patR_of (n : Nat) (neg : Bool) (t : List Bool) : patR n neg (numOf t) = patOf n neg t := rfl
/-- what a pattern means is rounded to it -/
theorem patI_own (n x : Nat) (hn : Wd n) (hx : x < 2 ^ 64) (hk : vK n x ≠ 2) : patI n (valI n x) eN = x % 2 ^ n := by
  rcases v_kinds n x hn with ⟨h, hz⟩ | h | ⟨h, _⟩
  · rw [val_zero n x (by rw [h]; decide), hz]; rfl
  · obtain ⟨e1, e2, e3, ht, hl, hk', hwd, _⟩ := v_real n x hn hx h
    have h0 : valI n x ≠ 0 := fun c => by
      have a := val_real n x hn hx h
      rw [c] at a
      have b : exI 0 eN = exV 0 false 0 0 0 false := exactV_zero _ _ _
      rw [b] at a
      obtain ⟨_, _, c3, _⟩ := val_inj a
      have := hwd.top
      omega
    rw [patI_of h0 (val_real n x hn hx h), e2, e3, rnd_home n _ hn hl ht, patR_of, e1]
    exact (patOf_str n x hn hx hk').2
  · exact absurd h hk
/-- the negative pattern means the negative number -/
theorem val_neg (n x y : Nat) (hn : Wd n) (hx : x < 2 ^ 64) (hy : y < 2 ^ 64) (h : y % 2 ^ n = (2 ^ n - x % 2 ^ n) % 2 ^ n) : vK n y = vK n x ∧ valI n y = -valI n x ∧ (vK n x = 1 → vB n y = !vB n x) ∧ vS n y = vS n x ∧ vF n y = vF n x := by
  obtain ⟨H, p1, p2, p3, _⟩ := wd_pows hn
  have hm := Nat.mod_lt x (show 0 < 2 ^ n by omega)
  have hw := wd_le hn
  have hkk : vK n y = vK n x := by
    unfold vK kindOf
    rw [h, p2]
    by_cases c0 : x % 2 ^ n = 0
    · rw [c0, Nat.sub_zero, Nat.mod_self, if_pos rfl]
    · rw [Nat.mod_eq_of_lt (by omega), if_neg c0, if_neg (by omega)]
      by_cases c1 : x % 2 ^ n = H
      · rw [if_pos c1, if_pos (by omega)]
      · rw [if_neg c1, if_neg (by omega)]
  by_cases hk : vK n x = 1
  · have hk2 : vK n y = 1 := by rw [hkk, hk]
    obtain ⟨a1, a2, a3, at_, al, ak, _⟩ := v_real n x hn hx hk
    obtain ⟨b1, b2, b3, bt, bl, bk, _⟩ := v_real n y hn hy hk2
    have hne : x % 2 ^ n ≠ 0 ∧ x % 2 ^ n ≠ H := by
      unfold kindOf at ak
      constructor
      · intro c; rw [if_pos c] at ak; exact absurd ak (by decide)
      · intro c; rw [if_neg (by omega), p2, if_pos c] at ak; exact absurd ak (by decide)
    have hy2 : y % 2 ^ n = 2 ^ n - x % 2 ^ n := by rw [h, Nat.mod_eq_of_lt (by omega)]
    have tx := top_of n (x % 2 ^ n) hn hm
    have ty := top_of n (y % 2 ^ n) hn (Nat.mod_lt _ (by omega))
    rw [← testBit_low x n (by omega), p2] at tx
    rw [← testBit_low y n (by omega), p2, hy2] at ty
    have hs : strS n y = strS n x := by
      refine numOf_inj (by rw [al, bl]) ?_
      rw [strS_num n y hn hy, strS_num n x hn hx, tx, ty, hy2]
      by_cases c : H ≤ x % 2 ^ n
      · rw [decide_eq_true c, decide_eq_false (show ¬ H ≤ 2 ^ n - x % 2 ^ n by omega)]; rfl
      · rw [decide_eq_false c, decide_eq_true (show H ≤ 2 ^ n - x % 2 ^ n by omega)]
        simp only [Bool.false_eq_true, if_false, if_true]
        congr 1
        omega
    have hB : vB n y = !vB n x := by
      rw [a1, b1, tx, ty]
      by_cases c : H ≤ x % 2 ^ n
      · rw [decide_eq_true c, decide_eq_false (by omega)]; rfl
      · rw [decide_eq_false c, decide_eq_true (by omega)]; rfl
    have hS : vS n y = vS n x := by rw [a2, b2, hs]
    have hF : vF n y = vF n x := by rw [a3, b3, hs]
    refine ⟨hkk, ?_, fun _ => hB, hS, hF⟩
    unfold valI
    rw [if_pos hk, if_pos hk2, hB, hS, hF, ← Int.neg_mul]
    congr 1
    unfold sg
    cases vB n x <;> simp
  · have hk2 : vK n y ≠ 1 := by rw [hkk]; exact hk
    have ak : ¬ kindOf n (x % 2 ^ n) = 1 := hk
    have bk : ¬ kindOf n (y % 2 ^ n) = 1 := hk2
    refine ⟨hkk, by rw [val_zero n x hk, val_zero n y hk2]; rfl, fun c => absurd c hk, ?_, ?_⟩
    · unfold vS; rw [if_neg ak, if_neg bk]
    · unfold vF; rw [if_neg ak, if_neg bk]
end Go.Proofs.Ytheliihkkoohnab

namespace Go.Proofs.Ytheliihkkoohnab
open Go.ChangeShapes Go.WideShapes Go.ChangeAt Go.RowKit
set_option linter.unusedVariables false
set_option linter.unusedSimpArgs false
set_option maxRecDepth 100000

/-! ### values and ranks (plain mathematics) -/
theorem rank_inj (n x y : Nat) (hn : Wd n) (h : extOf x n = extOf y n) : x % 2 ^ n = y % 2 ^ n := by
  obtain ⟨H, p1, p2, p3, _⟩ := wd_pows hn
  rw [extOf_val n x hn, extOf_val n y hn] at h
  have a := Nat.mod_lt x (show 0 < 2 ^ n by omega)
  have b := Nat.mod_lt y (show 0 < 2 ^ n by omega)
  rw [p2] at h
  split at h <;> split at h <;> omega
theorem val_mod (n x y : Nat) (hn : Wd n) (hx : x < 2 ^ 64) (hy : y < 2 ^ 64) (h : x % 2 ^ n = y % 2 ^ n) : valI n x = valI n y := by
  have e : minusU x % 2 ^ n = (2 ^ n - x % 2 ^ n) % 2 ^ n := minusU_mod n x hn hx
  have a := (val_neg n x (minusU x) hn hx (minusU_lt x) e).2.1
  have b := (val_neg n y (minusU x) hn hy (minusU_lt x) (by rw [e, h])).2.1
  omega
theorem val_rank (n x : Nat) (hn : Wd n) (hx : x < 2 ^ 64) (hk : vK n x ≠ 2) : extOf x n = rkI n (valI n x) eN := by
  rw [← patI_rank _ _ hn, patI_own n x hn hx hk, rank_mod n x hn]
theorem val_near (n x : Nat) (hn : Wd n) (hx : x < 2 ^ 64) : Near (valI n x).natAbs eN := near_of (by have := val_blen n x hn hx; omega) (by decide)
/-- the order of ranks is the order of values -/
theorem val_le (n x y : Nat) (hn : Wd n) (hx : x < 2 ^ 64) (hy : y < 2 ^ 64) (kx : vK n x ≠ 2) (ky : vK n y ≠ 2) (h : extOf x n ≤ extOf y n) : valI n x ≤ valI n y := by
  refine Int.not_lt.1 fun c => ?_
  have a := rkI_mono hn (Int.le_of_lt c) (val_near n y hn hy) (val_near n x hn hx)
  rw [← val_rank n x hn hx kx, ← val_rank n y hn hy ky] at a
  have e := val_mod n x y hn hx hy (rank_inj n x y hn (by omega))
  omega
/-! ### numbers ahead of their rounding -/
theorem exI_cases (T e : Int) : (T = 0 ∧ exI T e = exV 0 false 0 0 0 false) ∨ (T ≠ 0 ∧ ∃ neg s hi lo r, exI T e = exV 1 neg s hi lo r ∧ WordsX hi lo ∧ soundX 1 neg s hi lo r = true) := by
  by_cases h : T = 0
  · subst h; exact .inl ⟨rfl, exactV_zero _ _ _⟩
  · refine .inr ⟨h, ?_⟩
    have h0 : T.natAbs ≠ 0 := by omega
    have hwd := normN_words h0
    have hb := heldX_bounds (e + blen T.natAbs - 1)
    refine ⟨decide (T < 0), heldX (e + blen T.natAbs - 1), normN T.natAbs / 2 ^ 64 % 2 ^ 64, normN T.natAbs % 2 ^ 64, (false || lostN T.natAbs), by unfold exI exactV; rw [if_neg h0], hwd, ?_⟩
    unfold soundX
    rw [if_neg (by decide)]
    exact decide_eq_true ⟨rfl, hwd.top, hb.1, hb.2⟩
theorem rround_exI (n : Nat) (T e : Int) (hn : Wd n) (w : World) :
    Calls Try.prog 15 #[.int .i64 n, exI T e] w fun r w' => r = .returned (.tuple #[.int .u64 (patI n T e : Nat), .nilIface]) ∧ Below w.heap.size w w' := by
  rcases exI_cases T e with ⟨h, h2⟩ | ⟨h, neg, s, hi, lo, r, h2, hwd, hs⟩
  · rw [h2]
    have : patI n T e = 0 := by unfold patI; rw [if_pos h]
    rw [this]
    exact rround_zero n hn w
  · rw [h2, patI_of h h2]
    exact rround_real n neg s hi lo r hn hs hwd w
theorem exI_form (T e : Int) : ∃ k b s h l r, exI T e = exV k b s h l r := exactV_form _ _ _ _
/-! ### the document's Sum of any two -/
def sum9 (k : Int) (neg : Bool) (s : Int) (hi lo : Nat) (k' : Int) (neg' : Bool) (s' : Int) (hi' lo' : Nat) : Value :=
  if k = 2 ∨ k' = 2 then exV 2 false 0 0 0 false
  else if k = 0 then exV k' neg' s' hi' lo' false
  else if k' = 0 then exV k neg s hi lo false
  else sumR neg s (manX hi lo) neg' s' (manX hi' lo')
theorem v_other (n x : Nat) (h : vK n x ≠ 1) : vB n x = false ∧ vS n x = 0 ∧ vF n x = 0 := by
  have h2 : ¬ kindOf n (x % 2 ^ n) = 1 := h
  refine ⟨?_, ?_, ?_⟩
  · unfold vB; rw [if_neg h2]
  · unfold vS; rw [if_neg h2]
  · unfold vF; rw [if_neg h2]
/-- a pattern's value, as it is ahead of its rounding -/
theorem val_exV (n x : Nat) (hn : Wd n) (hx : x < 2 ^ 64) (hk : vK n x ≠ 2) : exV (vK n x) (vB n x) (vS n x) (vF n x) 0 false = exI (valI n x) eN := by
  rcases v_kinds n x hn with ⟨h, _⟩ | h | ⟨h, _⟩
  · obtain ⟨a, b, c⟩ := v_other n x (by rw [h]; decide)
    rw [h, a, b, c, val_zero n x (by rw [h]; decide)]
    exact (exactV_zero _ _ _).symm
  · rw [val_real n x hn hx h, h]
  · exact absurd h hk
theorem sum9_val (n a b : Nat) (hn : Wd n) (ha : a < 2 ^ 64) (hb : b < 2 ^ 64) :
    sum9 (vK n a) (vB n a) (vS n a) (vF n a) 0 (vK n b) (vB n b) (vS n b) (vF n b) 0 = if vK n a = 2 ∨ vK n b = 2 then exV 2 false 0 0 0 false else exI (valI n a + valI n b) eN := by
  unfold sum9
  by_cases h2 : vK n a = 2 ∨ vK n b = 2
  · rw [if_pos h2, if_pos h2]
  · rw [if_neg h2, if_neg h2]
    have na : vK n a ≠ 2 := fun c => h2 (.inl c)
    have nb : vK n b ≠ 2 := fun c => h2 (.inr c)
    by_cases a0 : vK n a = 0
    · rw [if_pos a0, val_exV n b hn hb nb, val_zero n a (by rw [a0]; decide), Int.zero_add]
    · rw [if_neg a0]
      by_cases b0 : vK n b = 0
      · rw [if_pos b0, val_exV n a hn ha na, val_zero n b (by rw [b0]; decide), Int.add_zero]
      · rw [if_neg b0]
        have a1 : vK n a = 1 := by rcases v_kinds n a hn with ⟨h, _⟩ | h | ⟨h, _⟩; exact absurd h a0; exact h; exact absurd h na
        have b1 : vK n b = 1 := by rcases v_kinds n b hn with ⟨h, _⟩ | h | ⟨h, _⟩; exact absurd h b0; exact h; exact absurd h nb
        obtain ⟨_, _, _, _, _, _, wa, sa1, sa2⟩ := v_real n a hn ha a1
        obtain ⟨_, _, _, _, _, _, wb, sb1, sb2⟩ := v_real n b hn hb b1
        have hw := wd_le hn
        have e := sumR_int (vB n a) (vS n a) (manX (vF n a) 0) (vB n b) (vS n b) (manX (vF n b) 0) wa.mant wb.mant (-248) (vS n a + 248).toNat (vS n b + 248).toNat (by omega) (by omega)
        rw [show (-248 : Int) - 127 = eN from rfl] at e
        unfold valI
        rw [if_pos a1, if_pos b1]
        exact e
/-- the pattern of a sum -/
def patS (n a b : Nat) : Nat := if vK n a = 2 ∨ vK n b = 2 then 2 ^ (n - 1) else patI n (valI n a + valI n b) eN
end Go.Proofs.Ytheliihkkoohnab

namespace Go.Proofs.Ytheliihkkoohnab
set_option maxRecDepth 100000
set_option linter.unusedVariables false
set_option linter.unusedSimpArgs false

/-! ### sums of patterns: what follows (plain mathematics) -/
theorem negO_eq (n x : Nat) (hn : Wd n) (hx : x < 2 ^ 64) : negO n x = (2 ^ n - x % 2 ^ n) % 2 ^ n := minusU_mod n x hn hx
theorem lt64_of {n y : Nat} (hn : Wd n) (h : y < 2 ^ n) : y < 2 ^ 64 := Nat.lt_of_lt_of_le h (Nat.pow_le_pow_right (by decide) (wd_le hn).2)
theorem negO_lt (n x : Nat) (hn : Wd n) : negO n x < 2 ^ n := Nat.mod_lt _ (Nat.pow_pos (by decide))
theorem negO_lt64 (n x : Nat) (hn : Wd n) : negO n x < 2 ^ 64 := lt64_of hn (negO_lt n x hn)
theorem val_negO (n x : Nat) (hn : Wd n) (hx : x < 2 ^ 64) : vK n (negO n x) = vK n x ∧ valI n (negO n x) = -valI n x := by
  have h := negO_eq n x hn hx
  have a := val_neg n x (negO n x) hn hx (negO_lt64 n x hn) (by rw [Nat.mod_eq_of_lt (negO_lt n x hn), h])
  exact ⟨a.1, a.2.1⟩
theorem vK_zero (n : Nat) : vK n 0 = 0 := by unfold vK kindOf; rw [Nat.zero_mod, if_pos rfl]
/-- the sum with a greater one is no less -/
theorem patS_rise (n a b c : Nat) (hn : Wd n) (ha : a < 2 ^ 64) (hb : b < 2 ^ 64) (hc : c < 2 ^ 64) (ka : vK n a ≠ 2) (kb : vK n b ≠ 2) (kc : vK n c ≠ 2) (h : extOf b n ≤ extOf c n) : extOf (patS n a b) n ≤ extOf (patS n a c) n := by
  have hv := val_le n b c hn hb hc kb kc h
  unfold patS
  rw [if_neg (by rintro (x | x); exact ka x; exact kb x), if_neg (by rintro (x | x); exact ka x; exact kc x), patI_rank _ _ hn, patI_rank _ _ hn]
  have na := val_blen n a hn ha
  have nb := val_blen n b hn hb
  have nc := val_blen n c hn hc
  have e1 := abs_add _ _ na nb
  have e2 := abs_add _ _ na nc
  exact rkI_mono hn (by omega) (near_of (by omega) (by decide)) (near_of (by omega) (by decide))
end Go.Proofs.Ytheliihkkoohnab

namespace Go.Proofs.Ytheliihkkoohnab
set_option maxRecDepth 100000
set_option linter.unusedVariables false
set_option linter.unusedSimpArgs false

/-! ### products (plain mathematics) -/
def xorB (a b : Bool) : Bool := decide (a ≠ b)
theorem sg_times (a b : Bool) (N M : Nat) : sg a N * sg b M = sg (xorB a b) (N * M) := by
  unfold sg xorB
  cases a <;> cases b <;> simp [Int.neg_mul, Int.mul_neg]
/-- the product ahead of its rounding -/
def prod10 (k : Int) (neg : Bool) (s : Int) (f : Nat) (k' : Int) (neg' : Bool) (s' : Int) (g : Nat) : Value :=
  if k = 2 ∨ k' = 2 then exV 2 false 0 0 0 false
  else if k = 0 ∨ k' = 0 then exV 0 false 0 0 0 false
  else exactV (xorB neg neg') (f * g) (s + s' - 126) false
theorem manX_zero (f : Nat) : manX f 0 = f * 2 ^ 64 := by unfold manX; rw [Nat.add_zero, show (2 : Nat) ^ 64 = 18446744073709551616 by decide]
end Go.Proofs.Ytheliihkkoohnab

namespace Go.Proofs.Ytheliihkkoohnab
open Go.ChangeShapes Go.WideShapes Go.ChangeAt Go.RowKit
set_option linter.unusedVariables false
set_option linter.unusedSimpArgs false
set_option maxRecDepth 100000

/-! ### the document's Sum -/
theorem Row.cset {w : World} {v : Value} {l : List Nat} (h : Row w v l) (m k : Nat) (u u' : Value) (hc : w.cell? ⟨m, k, none⟩ = some u) (hu : ∀ x, u ≠ .int .i64 x) : Row (w.setCell ⟨m, k, none⟩ u') v l := h.setU m k u u' hc hu
theorem sumD_form (neg : Bool) (s : Int) (M : Nat) (neg' : Bool) (s' : Int) (M' : Nat) : ∃ k b s2 h l r, sumD neg s M neg' s' M' = exV k b s2 h l r := by
  unfold sumD
  simp only
  generalize (if 400 < s - s' then farD else (s - s').toNat) = d
  generalize (if 400 < s - s' then 1 else M') = b
  by_cases hn : neg = neg'
  · rw [if_pos hn]; exact exactV_form _ _ _ _
  · rw [if_neg hn]
    by_cases hc : b ≤ M * 2 ^ d
    · rw [if_pos hc]; exact exactV_form _ _ _ _
    · rw [if_neg hc]; exact exactV_form _ _ _ _
end Go.Proofs.Ytheliihkkoohnab

namespace Go.Proofs.Ytheliihkkoohnab
open Go.ChangeShapes Go.WideShapes Go.ChangeAt Go.RowKit
set_option linter.unusedVariables false
set_option linter.unusedSimpArgs false
set_option maxRecDepth 100000

theorem sumR_form (neg : Bool) (s : Int) (M : Nat) (neg' : Bool) (s' : Int) (M' : Nat) : ∃ k b s2 h l r, sumR neg s M neg' s' M' = exV k b s2 h l r := by
  unfold sumR
  by_cases c : s < s'
  · rw [if_pos c]; exact sumD_form _ _ _ _ _ _
  · rw [if_neg c]; exact sumD_form _ _ _ _ _ _
theorem vF_lt (n x : Nat) : vF n x < 2 ^ 64 := by
  unfold vF
  split
  · exact (wordL_bounds _).2
  · decide
end Go.Proofs.Ytheliihkkoohnab

namespace Go.Proofs.Ytheliihkkoohnab
open Go.ChangeShapes Go.WideShapes Go.ChangeAt Go.RowKit
set_option linter.unusedVariables false
set_option linter.unusedSimpArgs false
set_option maxRecDepth 100000

/-! ### the document's products -/
theorem prod10_form (k : Int) (neg : Bool) (s : Int) (f : Nat) (k' : Int) (neg' : Bool) (s' : Int) (g : Nat) : ∃ k2 b s2 h l r, prod10 k neg s f k' neg' s' g = exV k2 b s2 h l r := by
  unfold prod10
  by_cases h : k = 2 ∨ k' = 2
  · rw [if_pos h]; exact ⟨_, _, _, _, _, _, rfl⟩
  · rw [if_neg h]
    by_cases h0 : k = 0 ∨ k' = 0
    · rw [if_pos h0]; exact ⟨_, _, _, _, _, _, rfl⟩
    · rw [if_neg h0]; exact exactV_form _ _ _ _
end Go.Proofs.Ytheliihkkoohnab

namespace Go.Proofs.Ytheliihkkoohnab
open Go.ChangeShapes Go.WideShapes Go.ChangeAt Go.RowKit
set_option linter.unusedVariables false
set_option linter.unusedSimpArgs false
set_option maxRecDepth 100000

/-! ### powers of 2 as patterns -/
end Go.Proofs.Ytheliihkkoohnab

namespace Go.Proofs.Ytheliihkkoohnab
set_option maxRecDepth 100000
set_option linter.unusedVariables false
set_option linter.unusedSimpArgs false

/-! ### quotients (plain mathematics) -/
def quoN (f g : Nat) : Nat := f * 2 ^ 200 / g
def quoR (f g : Nat) : Bool := decide (f * 2 ^ 200 % g ≠ 0)
/-- the first 64 digits alone -/
def cutV (neg : Bool) (M : Nat) (e : Int) (r : Bool) : Value := exV 1 neg (heldX (e + blen M - 1)) (normN M / 2 ^ 64 % 2 ^ 64) 0 ((r || lostN M) || decide (normN M % 2 ^ 64 ≠ 0))
def mgC (n M : Nat) (e : Int) (r : Bool) : Nat := rndX n (heldX (e + blen M - 1)) (normN M / 2 ^ 64 % 2 ^ 64) 0 ((r || lostN M) || decide (normN M % 2 ^ 64 ≠ 0))
def quot11 (k : Int) (neg : Bool) (s : Int) (f : Nat) (k' : Int) (neg' : Bool) (s' : Int) (g : Nat) : Value :=
  if k = 2 ∨ k' ≠ 1 then exV 2 false 0 0 0 false
  else if k = 0 then exV 0 false 0 0 0 false
  else cutV (xorB neg neg') (quoN f g) (s - s' - 200) (quoR f g)
def patQ (n a b : Nat) : Nat :=
  if vK n a = 2 ∨ vK n b ≠ 1 then 2 ^ (n - 1)
  else if vK n a = 0 then 0
  else patR n (xorB (vB n a) (vB n b)) (mgC n (quoN (vF n a) (vF n b)) (vS n a - vS n b - 200) (quoR (vF n a) (vF n b)))
theorem mgC_range {n M : Nat} (e : Int) (r : Bool) (hn : Wd n) (h0 : M ≠ 0) : 1 ≤ mgC n M e r ∧ mgC n M e r ≤ 2 ^ (n - 1) - 1 := by
  have h := normN_words h0
  exact rnd_range n _ _ _ _ hn ⟨h.top, h.hi64, by decide⟩
theorem quo_pos {f g : Nat} (hf : 9223372036854775808 ≤ f) (hg : g < 2 ^ 64) (h0 : 0 < g) : quoN f g ≠ 0 := by
  unfold quoN
  have h1 : g ≤ f * 2 ^ 200 := by
    have : 2 ^ 64 ≤ f * 2 ^ 200 := Nat.le_trans (by decide) (Nat.mul_le_mul_right (2 ^ 200) hf)
    omega
  have := (Nat.le_div_iff_mul_le h0).2 (by rw [Nat.one_mul]; exact h1)
  omega
theorem real_or (n a : Nat) (hn : Wd n) (h2 : vK n a ≠ 2) (h0 : vK n a ≠ 0) : vK n a = 1 := by
  rcases v_kinds n a hn with ⟨h, _⟩ | h | ⟨h, _⟩
  · exact absurd h h0
  · exact h
  · exact absurd h h2
theorem patQ_real (n a b : Nat) (hn : Wd n) (ha : a < 2 ^ 64) (hb : b < 2 ^ 64) (ka : vK n a = 1) (kb : vK n b = 1) :
    ∃ R, 1 ≤ R ∧ R ≤ 2 ^ (n - 1) - 1 ∧ R = mgC n (quoN (vF n a) (vF n b)) (vS n a - vS n b - 200) (quoR (vF n a) (vF n b)) ∧ patQ n a b = patR n (xorB (vB n a) (vB n b)) R := by
  obtain ⟨_, _, _, _, _, _, wa, _⟩ := v_real n a hn ha ka
  obtain ⟨_, _, _, _, _, _, wb, _⟩ := v_real n b hn hb kb
  have h := mgC_range (vS n a - vS n b - 200) (quoR (vF n a) (vF n b)) hn (quo_pos wa.top wb.hi64 (by have := wb.top; omega))
  refine ⟨_, h.1, h.2, rfl, ?_⟩
  unfold patQ
  rw [if_neg (by rw [ka, kb]; decide), if_neg (by rw [ka]; decide)]
theorem patQ_nar (n a b : Nat) (h : vK n a = 2 ∨ vK n b ≠ 1) : patQ n a b = 2 ^ (n - 1) := by unfold patQ; rw [if_pos h]
theorem patQ_zero (n a b : Nat) (h : vK n a = 0) (hb : vK n b = 1) : patQ n a b = 0 := by unfold patQ; rw [if_neg (by rw [h, hb]; decide), if_pos h]
end Go.Proofs.Ytheliihkkoohnab

namespace Go.Proofs.Ytheliihkkoohnab
set_option linter.unusedVariables false
set_option linter.unusedSimpArgs false
set_option maxRecDepth 100000

/-! ### roots (plain mathematics) -/
theorem val_order {n a b : Nat} (hn : Wd n) (ha : a < 2 ^ 64) (hb : b < 2 ^ 64) (ka : vK n a = 1) (kb : vK n b = 1) (na : vB n a = false) (nb : vB n b = false) (h : extOf a n ≤ extOf b n) :
    vS n a < vS n b ∨ (vS n a = vS n b ∧ manX (vF n a) 0 ≤ manX (vF n b) 0) := by
  have hv := val_le n a b hn ha hb (by rw [ka]; decide) (by rw [kb]; decide) h
  obtain ⟨_, _, _, _, _, _, wa, s1, s2⟩ := v_real n a hn ha ka
  obtain ⟨_, _, _, _, _, _, wb, t1, t2⟩ := v_real n b hn hb kb
  have hw := wd_le hn
  obtain ⟨a1, a2⟩ := wa.mant
  obtain ⟨b1, b2⟩ := wb.mant
  unfold valI at hv
  rw [if_pos ka, if_pos kb, na, nb] at hv
  simp only [sg, Bool.false_eq_true, if_false] at hv
  rw [← Int.natCast_mul, ← Int.natCast_mul] at hv
  have hv' := Int.ofNat_le.1 hv
  by_cases c : vS n a < vS n b
  · exact .inl c
  · by_cases e : vS n a = vS n b
    · refine .inr ⟨e, ?_⟩
      rw [e] at hv'
      exact Nat.le_of_mul_le_mul_right hv' (Nat.pow_pos (by decide))
    · exfalso
      obtain ⟨d, hd⟩ : ∃ d : Nat, (vS n a + 248).toNat = (vS n b + 248).toNat + 1 + d := ⟨(vS n a - vS n b - 1).toNat, by omega⟩
      rw [hd, Nat.pow_add, Nat.pow_add] at hv'
      have hp : 0 < 2 ^ (vS n b + 248).toNat := Nat.pow_pos (by decide)
      have hq : 0 < 2 ^ d := Nat.pow_pos (by decide)
      have h1 : manX (vF n a) 0 * (2 ^ (vS n b + 248).toNat * 2 ^ 1 * 2 ^ d) = manX (vF n a) 0 * 2 * 2 ^ d * 2 ^ (vS n b + 248).toNat := by
        rw [Nat.pow_one]; simp only [Nat.mul_assoc, Nat.mul_left_comm, Nat.mul_comm]
      rw [h1] at hv'
      have h2 := Nat.le_of_mul_le_mul_right hv' hp
      have h3 : manX (vF n a) 0 * 2 ≤ manX (vF n a) 0 * 2 * 2 ^ d := Nat.le_mul_of_pos_right _ hq
      omega
end Go.Proofs.Ytheliihkkoohnab
