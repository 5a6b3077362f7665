import Derived.Test.YtheliihkkoohnaaJoin6
import Derived.Test.YtheliihkkoohnaaJoin1
import Derived.Laws.AppendOwnNone
import Derived.Test.YtheliihkkoohnaaJoin2
import Derived.Deep.CutBlock
import Derived.Test.YtheliihkkoohnaaJoin3
import Derived.Deep.CutRange
namespace Go.Proofs.Ytheliihkkoohnaa
set_option linter.unusedVariables false
set_option linter.unusedSimpArgs false
set_option maxRecDepth 100000

/-! ### the root of a square, as patterns (plain mathematics) -/
theorem abs_home (n a : Nat) (hn : Wd n) (ha : a < 2 ^ 64) (ka : vK n a = 1) : rndX n (vS n a) (vF n a) 0 false = absO n a := by
  obtain ⟨_, _, _, _, _, _, wa, _⟩ := v_real n a hn ha ka
  obtain ⟨r1, r2⟩ := rnd_range n (vS n a) (vF n a) 0 false hn wa
  have h := own_real n a hn ha ka
  have hr : patR n false (rndX n (vS n a) (vF n a) 0 false) = rndX n (vS n a) (vF n a) 0 false := rfl
  have he := extOf_patR n hn (vB n a) _ r1 r2
  rw [h, rank_mod n a hn] at he
  unfold absO
  cases hb : vB n a
  · rw [hb] at h he
    simp only [Bool.false_eq_true, if_false] at he
    rw [if_neg (by omega), ← h, hr]
  · rw [hb] at h he
    simp only [if_true] at he
    rw [if_pos (by omega), ← negO_mod n a hn ha, ← h, ← patR_not n true _ hn r1 r2]
    exact hr
theorem abs_zero (n a : Nat) (hn : Wd n) (ka : vK n a = 0) : absO n a = 0 := by
  have hz : a % 2 ^ n = 0 := by
    rcases v_kinds n a hn with ⟨_, h⟩ | h | ⟨h, _⟩
    · exact h
    · rw [ka] at h; exact absurd h (by decide)
    · rw [ka] at h; exact absurd h (by decide)
  unfold absO
  rw [rank_zero n a hn hz, if_neg (by decide), hz]
/-- where a's square is the pattern p, and p means just that -/
theorem square_back (n a p : Nat) (hn : Wd n) (ha : a < 2 ^ 64) (hp : p < 2 ^ 64) (ka : vK n a ≠ 2)
    (h : exV (vK n p) (vB n p) (vS n p) (vF n p) 0 false = prod10 (vK n a) (vB n a) (vS n a) (vF n a) (vK n a) (vB n a) (vS n a) (vF n a)) : patT2 n p = absO n a := by
  unfold prod10 at h
  rw [if_neg (by rintro (c | c) <;> exact ka c)] at h
  by_cases k0 : vK n a = 0
  · rw [if_pos (.inl k0)] at h
    rw [abs_zero n a hn k0]
    have hk : vK n p = 0 := by
      have e := congrArg (fun v => match v with | .agg xs => xs[0]? | _ => none) h
      simp [exV] at e
      exact e
    exact patT2_zero n p hn hk
  · have k1 := real_or n a hn ka k0
    rw [if_neg (by rintro (c | c) <;> exact k0 c)] at h
    obtain ⟨_, _, _, _, _, _, wa, s1, s2⟩ := v_real n a hn ha k1
    have hw := wd_le hn
    obtain ⟨q1, q2, q3, q4⟩ := square_root wa (vS n a)
    have hx : xorB (vB n a) (vB n a) = false := xorB_self _
    have ht := wa.top
    have h0 : vF n a * vF n a ≠ 0 := Nat.mul_ne_zero (by omega) (by omega)
    unfold exactV at h
    rw [if_neg h0, hx, q4] at h
    have hk : vK n p = 1 := by
      have e := congrArg (fun v => match v with | .agg xs => xs[0]? | _ => none) h
      simp [exV] at e
      exact e
    rw [hk] at h
    obtain ⟨e1, e2, e3, e4, e5⟩ := val_inj h
    have hb : blen (vF n a * vF n a) ≤ 128 ↔ vF n a * vF n a < 2 ^ 128 := blen_le
    have hu : vF n a * vF n a < 2 ^ 128 := by
      have := Nat.mul_lt_mul_of_lt_of_lt wa.hi64 wa.hi64
      exact Nat.lt_of_lt_of_le this (by decide)
    have hb2 := hb.2 hu
    have hS : vS n p = 2 * vS n a - 126 + blen (vF n a * vF n a) - 1 := by
      rw [e2]; unfold heldX; rw [if_neg (by omega), if_neg (by omega)]; omega
    have hM : manX (vF n p) 0 = normN (vF n a * vF n a) := by
      rw [← man_norm h0, ← e3, ← e4]
    unfold patT2
    rw [if_neg (by rw [hk, e1]; decide), if_neg (by rw [hk]; decide)]
    unfold mgT
    rw [hS, hM, q1, q2, q3]
    exact abs_home n a hn ha k1
end Go.Proofs.Ytheliihkkoohnaa

namespace Go.Proofs.Ytheliihkkoohnaa
open Go.ChangeShapes Go.WideShapes Go.ChangeAt Go.RowKit
set_option linter.unusedVariables false
set_option maxRecDepth 100000

/-- the digits from i on, noughts below -/
def hiz (n i m : Nat) : List Nat := (List.range m).map fun j => if i ≤ j then top n j % 16777216 else 0
theorem hiz_length (n i m : Nat) : (hiz n i m).length = m := by simp [hiz]
theorem hiz_start (n m : Nat) : hiz n m m = List.replicate m 0 := by
  apply List.ext_getElem
  · simp [hiz]
  · intro j h1 h2
    have : j < m := by simpa [hiz] using h1
    simp [hiz]; omega
theorem hiz_zero (n m : Nat) : hiz n 0 m = low n m := by simp [hiz, low]
theorem hiz_set (n i m : Nat) (h : i < m) : (hiz n (i + 1) m).set i (top n i % 16777216) = hiz n i m := by
  apply List.ext_getElem
  · simp [hiz]
  · intro j h1 h2
    have hj : j < m := by simpa [hiz] using h2
    rw [List.getElem_set]
    by_cases e : i = j
    · subst e; simp [hiz]
    · rw [if_neg e]
      simp only [hiz, List.getElem_map, List.getElem_range]
      by_cases g : i ≤ j
      · rw [if_pos (by omega), if_pos g]
      · rw [if_neg (by omega), if_neg g]
theorem dig_push (r d : Nat) (hd : d < 16777216) : ∃ z, d :: dig r = dig (r * 16777216 + d) ++ List.replicate z 0 := by
  by_cases h : r * 16777216 + d = 0
  · have h1 : r = 0 := by omega
    have h2 : d = 0 := by omega
    subst h1 h2
    exact ⟨1, by simp [dig_zero]⟩
  · refine ⟨0, ?_⟩
    rw [dig_pos h, show (r * 16777216 + d) % 16777216 = d by omega, show (r * 16777216 + d) / 16777216 = r by omega]
    simp
/-- one step of the division from above -/
theorem div_step (a b i : Nat) (hb : 0 < b) :
    top (a / b) i % 16777216 = (top a (i + 1) % b * 16777216 + top a i % 16777216) / b ∧
    (top a (i + 1) % b * 16777216 + top a i % 16777216) % b = top a i % b ∧ top a (i + 1) % b * 16777216 + top a i % 16777216 < b * 16777216 := by
  have e : top a i = top a (i + 1) * 16777216 + top a i % 16777216 := by rw [top_succ]; omega
  have hd : top a i % 16777216 < 16777216 := Nat.mod_lt _ (by decide)
  rw [top_div]
  generalize top a i % 16777216 = d at *
  have hr := Nat.mod_lt (top a (i + 1)) hb
  have hN : top a (i + 1) % b * 16777216 + d < b * 16777216 := by
    have h := Nat.mul_le_mul_right 16777216 (Nat.succ_le_of_lt hr)
    rw [Nat.succ_mul] at h
    exact Nat.lt_of_lt_of_le (Nat.add_lt_add_left hd _) h
  have hq : (top a (i + 1) % b * 16777216 + d) / b < 16777216 := Nat.div_lt_of_lt_mul hN
  have h0 : top a i = b * (top a (i + 1) / b * 16777216) + (top a (i + 1) % b * 16777216 + d) := by
    have h1 : top a (i + 1) * 16777216 = (b * (top a (i + 1) / b) + top a (i + 1) % b) * 16777216 := by rw [Nat.div_add_mod]
    rw [e, h1, Nat.add_mul, Nat.mul_assoc]; omega
  refine ⟨?_, ?_, hN⟩
  · rw [h0, Nat.mul_add_div hb, Nat.add_comm, Nat.add_mul_mod_self_right, Nat.mod_eq_of_lt hq]
  · rw [h0, Nat.mul_add_mod]
theorem Row.other {w : World} {v u : Value} {l : List Nat} {g j : Nat} (h : Row w v l) (hne : v.ownBlock ≠ some g) : Row (w.setCell ⟨g, j, none⟩ u) v l := by
  obtain ⟨ao, c, rfl, hc, hl, h⟩ := h
  refine ⟨ao, c, rfl, hc, hl, ?_⟩
  rcases h with h | ⟨b, off, rfl, hlt, h⟩
  · exact .inl h
  · have hb : b ≠ g := fun e => hne (by rw [e]; rfl)
    refine .inr ⟨b, off, rfl, hlt.set, fun i hi => ?_⟩
    rw [World.cell?_setCell_other w ⟨g, j, none⟩ ⟨b, off + i, none⟩ u (by intro e; exact hb (by injection e with e1; exact e1.symm)), h i hi]
theorem times_int (va : Value) (a q : Nat) (qq : Int) (hqq : qq = (q : Int)) (hq : q ≤ 16777216) (hS : dlen a ≤ 1099511627776) (w : World) (ha : Row w va (dig a)) :
    Calls Try.prog 109 #[va, .int .i64 qq] w fun e w' => ∃ v, e = .returned v ∧ Row w' v (dig (a * q)) ∧ Below w.heap.size w w' := by
  rw [hqq]; exact times_any va a q hq hS w ha
theorem owns_alloc {w : World} {base n sz : Nat} {e : TypeId} {v : Value} {xs : List Value} (h : w.ownsRow base e sz v n xs) (o : Obj) : (w.alloc o).ownsRow base e sz v n xs := h.alloc o
theorem bmore0 {a w : World} (h : Below a.heap.size a w) (o : Obj) : Below a.heap.size a (w.alloc o) := h.alloc h.size o
theorem bthen0 {a W w : World} (h : Below a.heap.size a W) (hb : Below W.heap.size W w) : Below a.heap.size a w := h.trans (hb.mono h.size)

theorem bdrewN' {B : Nat} {a W : World} (h : Below B a W) (q : Nat) : Below B a (W.drewN q) := below_drewN h q

end Go.Proofs.Ytheliihkkoohnaa

namespace Go.Proofs.Ytheliihkkoohnaa
open Go.ChangeShapes Go.WideShapes Go.ChangeAt Go.RowKit
set_option linter.unusedVariables false
set_option maxRecDepth 100000

theorem times_intq (va : Value) (a q : Nat) (qq : Int) (hqq : qq = (q : Int)) (hq : q ≤ 16777216) (hS : dlen a ≤ 1099511627776) (w : World) (ha : Row w va (dig a)) :
    Calls Try.prog 75 #[va, .int .i64 qq] w fun e w' => ∃ v, e = .returned v ∧ Row w' v (dig (a * q)) ∧ Below w.heap.size w w' := by
  rw [hqq]; exact times_anyq va a q hq hS w ha
end Go.Proofs.Ytheliihkkoohnaa

namespace Go.Proofs.Ytheliihkkoohnaa
open Go.ChangeShapes Go.WideShapes Go.ChangeAt Go.RowKit
set_option linter.unusedVariables false
set_option linter.unusedSimpArgs false
set_option maxRecDepth 100000

/-! ### the document's quotients -/
theorem quot11_form (k : Int) (neg : Bool) (s : Int) (f : Nat) (k' : Int) (neg' : Bool) (s' : Int) (g : Nat) : ∃ k2 b s2 h l r, quot11 k neg s f k' neg' s' g = exV k2 b s2 h l r := by
  unfold quot11
  by_cases h : k = 2 ∨ k' ≠ 1
  · rw [if_pos h]; exact ⟨_, _, _, _, _, _, rfl⟩
  · rw [if_neg h]
    by_cases h0 : k = 0
    · rw [if_pos h0]; exact ⟨_, _, _, _, _, _, rfl⟩
    · rw [if_neg h0]; exact ⟨_, _, _, _, _, _, rfl⟩
theorem shl_blen {f : Nat} (j : Nat) (hf : f < 2 ^ 64) : blen (f * 2 ^ j) ≤ 64 + j := blen_le.2 (by rw [Nat.pow_add]; exact Nat.mul_lt_mul_of_pos_right hf (Nat.pow_pos (by decide)))
theorem quo_blen {f g : Nat} (hf : f < 2 ^ 64) : blen (quoN f g) ≤ 264 ∧ blen (f * 2 ^ 200) ≤ 264 ∧ blen (f * 2 ^ 200 % g) ≤ 264 := by
  have h := shl_blen 200 hf
  exact ⟨Nat.le_trans (blen_mono (Nat.div_le_self _ _)) h, h, Nat.le_trans (blen_mono (Nat.mod_le _ _)) h⟩
theorem dlen_le_blen (M : Nat) : dlen M ≤ blen M := by
  refine dlen_le_of_lt (Nat.lt_of_lt_of_le (blen_hi M) ?_)
  rw [show (16777216 : Nat) = 2 ^ 24 by decide, ← Nat.pow_mul]
  exact Nat.pow_le_pow_right (by decide) (by omega)
theorem dlen_some (r : Nat) : decide ((0 : Int) < ((dlen r : Nat) : Int)) = decide (r ≠ 0) := by
  by_cases h : r = 0
  · subst h; rw [dlen_zero]; rfl
  · have : dlen r ≠ 0 := fun c => h (dlen_eq_zero.1 c)
    rw [decide_eq_true h, decide_eq_true (by omega)]
theorem soundN_kindsQ {k : Int} {neg : Bool} {s : Int} {f : Nat} (h : soundN k neg s f = true) : k = 0 ∨ k = 2 ∨ k = 1 := by
  rcases sound_cases h with ⟨a, _⟩ | ⟨a, _⟩ | a
  · exact .inl a
  · exact .inr (.inl a)
  · exact .inr (.inr a)
end Go.Proofs.Ytheliihkkoohnaa

namespace Go.Proofs.Ytheliihkkoohnaa
open Go.ChangeShapes Go.WideShapes Go.ChangeAt Go.RowKit
set_option linter.unusedVariables false

/-! ### one digit (32 bits) of a quotient, as the library's Div64 finds it -/
theorem kn_up {u t a b T : Nat} (ha : 0 < a) (ht : t < 4294967296) (hT : T * (a * 4294967296 + b) ≤ u * 4294967296 + t) : T ≤ u / a := by
  rw [Nat.le_div_iff_mul_le ha]
  rw [Nat.mul_add, ← Nat.mul_assoc] at hT
  generalize T * a = x at *
  generalize T * b = z at *
  omega
theorem kn_more {q r u t a b T : Nat} (hq : q * a + r = u) (hlt : u < a * 4294967296 + b) (ht : t < 4294967296) (hT : T * (a * 4294967296 + b) ≤ u * 4294967296 + t)
    (hc : 4294967296 ≤ q ∨ r * 4294967296 + t < q * b) : T < q := by
  by_cases h : T < q
  · exact h
  · have h1 := Nat.mul_le_mul (Nat.le_of_not_lt h) (Nat.le_refl (a * 4294967296 + b))
    rcases hc with h2 | h2
    · have h3 := Nat.mul_le_mul h2 (Nat.le_refl (a * 4294967296 + b))
      omega
    · rw [Nat.mul_add q, ← Nat.mul_assoc] at h1
      generalize q * a = x at *
      generalize q * b = z at *
      omega
theorem kn_stop {q r u t a b T : Nat} (hq : q * a + r = u) (hc : q * b ≤ r * 4294967296 + t) (hT : u * 4294967296 + t < (T + 1) * (a * 4294967296 + b)) (h : T ≤ q) : q = T := by
  have h1 : q * (a * 4294967296 + b) < (T + 1) * (a * 4294967296 + b) := by
    refine Nat.lt_of_le_of_lt ?_ hT
    rw [Nat.mul_add q, ← Nat.mul_assoc]
    generalize q * a = x at *
    generalize q * b = z at *
    omega
  have := Nat.lt_of_mul_lt_mul_right h1
  omega
theorem kn_break {q r u t a b : Nat} (hq : q * a + r = u) (hlt : u < a * 4294967296 + b) (hb : b < 4294967296) (hr : 4294967296 ≤ r) : q * b ≤ r * 4294967296 + t := by
  have h1 : q < 4294967296 := by
    by_cases h : q < 4294967296
    · exact h
    · have := Nat.mul_le_mul (Nat.le_of_not_lt h) (Nat.le_refl a)
      omega
  have h2 := Nat.mul_le_mul (Nat.le_of_lt h1) (Nat.le_of_lt hb)
  omega
theorem div_at {U y q : Nat} (h1 : q * y ≤ U) (h2 : U < (q + 1) * y) : U / y = q := by
  rw [Nat.mul_comm] at h1 h2
  exact Nat.div_eq_of_lt_le (by rw [Nat.mul_comm]; exact h1) (by rw [Nat.mul_comm]; exact h2)

theorem lz64_any (x : Nat) (hx : x ≤ 18446744073709551615) (w : World) :
    Calls Try.prog 70 #[.int .u64 x] w fun e w' => e = .returned (.int .i64 ((64 - blen x : Nat) : Int)) ∧ w' = w := by
  have r2 := fun w => len64_any x (by omega) w
  rw [bitLen_eq x hx] at r2
  have hb : blen x ≤ 64 := blen_le.2 (by omega)
  generalize blen x = L at *
  refine cps fun Q hQ => ?_
  go_enter Try.func70, Try.ntmps70
  go_wp2_with (go_at_call 107; refine (r2 _).mono ?_; rintro e w' ⟨rfl, hw⟩; rw [hw]; clear hw w')
  exact hQ.out _ _ ⟨ret_i (by omega), rfl⟩
end Go.Proofs.Ytheliihkkoohnaa

namespace Go.Proofs.Ytheliihkkoohnaa
set_option maxRecDepth 100000
open Go.ChangeShapes Go.WideShapes Go.ChangeAt Go.RowKit
set_option linter.unusedVariables false

/-- the guess that leaves room for one more -/
theorem pguess_math {a d j T v q : Nat} (ha : a < 340282366920938463463374607431768211456) (hT : T = 2 ^ (j + 1)) (hv : v = d / T) (hv2 : 9223372036854775808 ≤ v)
    (hq : q = a / 2 / v / 2 ^ j) : (q - min q 1) * d ≤ a ∧ a < (q - min q 1 + 2) * d := by
  have hT2 : T = 2 ∨ 4 ≤ T := by
    rcases Nat.eq_zero_or_pos j with h | h
    · left; rw [hT, h]
    · right; rw [hT]; exact Nat.le_trans (show 4 ≤ 2 ^ 2 by decide) (Nat.pow_le_pow_right (by decide) (by omega))
  have hT0 : 0 < T := by omega
  have hD : v * T ≤ d := by rw [hv]; exact Nat.div_mul_le_self d T
  have hD2 : d < v * T + T := by
    have := Nat.mod_lt d hT0
    have h2 := Nat.div_add_mod' d T
    rw [← hv] at h2
    omega
  have hD3 : 9223372036854775808 * T ≤ v * T := Nat.mul_le_mul_right T hv2
  have hq2 : q = a / (v * T) := by
    rw [hq, Nat.div_div_eq_div_mul, Nat.div_div_eq_div_mul]
    congr 1
    rw [hT, Nat.pow_succ, Nat.mul_left_comm, Nat.mul_comm 2]
  obtain ⟨D, eD⟩ : ∃ D, D = v * T := ⟨_, rfl⟩
  rw [← eD] at hD hD2 hD3 hq2
  have hD0 : 0 < D := by omega
  have q1 : q * D ≤ a := by rw [hq2]; exact Nat.div_mul_le_self a D
  have q2 : a < (q + 1) * D := by
    have := Nat.lt_div_mul_add (a := a) hD0
    rw [← hq2] at this
    rw [Nat.add_mul, Nat.one_mul]
    exact this
  clear hq hq2 hv eD hT
  by_cases h0 : q = 0
  · subst h0
    simp only [Nat.zero_min, Nat.sub_self, Nat.zero_mul, Nat.zero_add]
    refine ⟨Nat.zero_le _, ?_⟩
    omega
  · obtain ⟨i, rfl⟩ : ∃ i, q = i + 1 := ⟨q - 1, by omega⟩
    rw [show min (i + 1) 1 = 1 by omega, Nat.add_sub_cancel]
    constructor
    · have h1 : (i + 1) * (9223372036854775808 * T) ≤ (i + 1) * D := Nat.mul_le_mul_left _ hD3
      have h2 : i * d ≤ i * (D + (T - 1)) := Nat.mul_le_mul_left _ (by omega)
      have h3 : i * (T - 1) ≤ D := by
        rcases hT2 with h | h
        · subst h; omega
        · have h4 : i * (T - 1) ≤ (i + 1) * T := Nat.mul_le_mul (by omega) (by omega)
          have h5 : (i + 1) * (9223372036854775808 * T) = 9223372036854775808 * ((i + 1) * T) := Nat.mul_left_comm _ _ _
          rw [h5] at h1
          generalize (i + 1) * T = X at *
          omega
      rw [Nat.mul_add] at h2
      rw [Nat.add_mul, Nat.one_mul] at q1
      generalize i * D = Y at *
      omega
    · have h1 : (i + 1 + 1) * D ≤ (i + 2) * d := Nat.mul_le_mul (by omega) hD
      omega
end Go.Proofs.Ytheliihkkoohnaa

namespace Go.Proofs.Ytheliihkkoohnaa
set_option maxRecDepth 100000
open Go.ChangeShapes Go.WideShapes Go.ChangeAt Go.RowKit
set_option linter.unusedVariables false

theorem tw_some {n : Nat} (h : n < 340282366920938463463374607431768211456) : ∃ h l, Tw n h l := ⟨n / 18446744073709551616, n % 18446744073709551616, by omega, by omega, by omega⟩
end Go.Proofs.Ytheliihkkoohnaa

namespace Go.Proofs.Ytheliihkkoohnaa
set_option maxRecDepth 100000
open Go.ChangeShapes Go.WideShapes Go.ChangeAt Go.RowKit
set_option linter.unusedVariables false

end Go.Proofs.Ytheliihkkoohnaa

namespace Go.Proofs.Ytheliihkkoohnaa
set_option maxRecDepth 100000
open Go.ChangeShapes Go.WideShapes Go.ChangeAt Go.RowKit
set_option linter.unusedVariables false

theorem sq_lt {r a : Nat} (h : r * r ≤ a) (ha : a < 340282366920938463463374607431768211456) : r < 18446744073709551616 := by
  by_cases g : r < 18446744073709551616
  · exact g
  · have := Nat.mul_le_mul (show 18446744073709551616 ≤ r by omega) (show 18446744073709551616 ≤ r by omega)
    omega
theorem sq_one {r s a : Nat} (h1 : r * r ≤ a) (h2 : a < (r + 1) * (r + 1)) (h3 : s * s ≤ a) (h4 : a < (s + 1) * (s + 1)) : r = s := by
  rcases Nat.lt_trichotomy r s with g | g | g
  · have := Nat.mul_le_mul (show r + 1 ≤ s by omega) (show r + 1 ≤ s by omega); omega
  · exact g
  · have := Nat.mul_le_mul (show s + 1 ≤ r by omega) (show s + 1 ≤ r by omega); omega
end Go.Proofs.Ytheliihkkoohnaa

namespace Go.Proofs.Ytheliihkkoohnaa
set_option maxRecDepth 100000
open Go.ChangeShapes Go.WideShapes Go.ChangeAt Go.RowKit
set_option linter.unusedVariables false

theorem or_bit (m i : Nat) : m * 2 ^ (i + 1) ||| 2 ^ i = m * 2 ^ (i + 1) + 2 ^ i := by
  have h := Nat.shiftLeft_add_eq_or_of_lt (a := m) (b := 2 ^ i) (i := i + 1) (Nat.pow_lt_pow_right (by decide) (by omega))
  rw [Nat.shiftLeft_eq] at h
  exact h.symm
theorem or_room {m i : Nat} (hi : i < 64) (h : m * 2 ^ (i + 1) < 18446744073709551616) : m * 2 ^ (i + 1) + 2 ^ i < 18446744073709551616 := by
  have e : 2 ^ (63 - i) * 2 ^ (i + 1) = 18446744073709551616 := by rw [← Nat.pow_add, show 63 - i + (i + 1) = 64 by omega]
  have h1 : m < 2 ^ (63 - i) := by
    by_cases g : m < 2 ^ (63 - i)
    · exact g
    · have := Nat.mul_le_mul_right (2 ^ (i + 1)) (Nat.le_of_not_lt g)
      omega
  have h2 := Nat.mul_le_mul_right (2 ^ (i + 1)) h1
  rw [Nat.succ_mul] at h2
  have h3 : 2 ^ (i + 1) = 2 ^ i * 2 := Nat.pow_succ 2 i
  have h4 : 0 < 2 ^ i := Nat.pow_pos (by decide)
  generalize 2 ^ i = p at *
  generalize 2 ^ (i + 1) = p2 at *
  generalize m * p2 = x at *
  omega
set_option maxHeartbeats 4000000 in
theorem proot_any {a h1 l1 r h l : Nat} (ha : Tw a h1 l1) (hr1 : r * r ≤ a) (hr2 : a < (r + 1) * (r + 1)) (hl : Tw (a - r * r) h l) (w : World) :
    Calls Try.prog 95 #[.agg #[.int .u64 h1, .int .u64 l1]] w fun e w' => e = .returned (.tuple #[.int .u64 r, .agg #[.int .u64 h, .int .u64 l]]) ∧ Below w.heap.size w w' := by
  refine cps fun Q hQ => ?_
  have la := ha.lt
  have lr := sq_lt hr1 la
  obtain ⟨h2, l2, t2⟩ := tw_some (n := r * r) (by omega)
  have k1 := fun w => tmul_any (show r ≤ 18446744073709551615 by omega) (show r ≤ 18446744073709551615 by omega) t2 w
  have k2 := fun w => tsub_any (c := false) ha t2 (h := h) (l := l) (by
    rw [show a + 340282366920938463463374607431768211456 - r * r = (a - r * r) + 340282366920938463463374607431768211456 by omega, Nat.add_mod_right, Nat.mod_eq_of_lt (by omega)]
    exact hl) (decide_eq_false (by omega)).symm w
  have HR : Hid (∀ R, R * R ≤ a → a < (R + 1) * (R + 1) → R = r) := fun R x y => sq_one x y hr1 hr2
  have HA : Hid (Tw a h1 l1 ∧ a < 340282366920938463463374607431768211456) := ⟨ha, la⟩
  have HS : Hid (a < (0 + 2 ^ 64) * (0 + 2 ^ 64)) := show _ < _ by omega
  clear ha hr1 hr2 hl la lr t2
  obtain ⟨W, hW⟩ : ∃ W, W = (w.alloc (.cells #[.int .u64 h1, .int .u64 l1] 69)).alloc (.cells #[.int .u64 0, .int .u64 0] 69) := ⟨_, rfl⟩
  have H0 : Below w.heap.size w W := by rw [hW]; exact bmore (bmore (Below.refl _ _) _) _
  have z0 : w.heap.size + 1 < W.heap.size := by rw [hW]; simp
  have z1 : w.heap.size < W.heap.size := by omega
  have cls : ∀ V, Below W.heap.size W V → V.cell? ⟨w.heap.size, 0, none⟩ = some (.int .u64 h1) ∧ V.cell? ⟨w.heap.size, 1, none⟩ = some (.int .u64 l1) := fun V hV => by
    obtain ⟨c, _⟩ := bcell hV
    rw [c _ _ z1, c _ _ z1, hW]
    simp [go_sem]
  have box : ∀ V, Below W.heap.size W V → V.cell? ⟨w.heap.size + 1, 0, none⟩ = some (.int .u64 0) ∧ V.cell? ⟨w.heap.size + 1, 1, none⟩ = some (.int .u64 0) ∧ V.frozen? ⟨w.heap.size + 1, 0, none⟩ = false ∧ V.frozen? ⟨w.heap.size + 1, 1, none⟩ = false := fun V hV => by
    obtain ⟨c, f⟩ := bcell hV
    rw [c _ _ z0, c _ _ z0, f _ _ z0, f _ _ z0, hW]
    simp [go_sem]
  go_enter Try.func95, Try.ntmps95
  go_wp2
  rw [← hW]
  clear hW
  go_loopw [4, 5] (fun rv kv wr => ∃ R j m : Nat, j ≤ 64 ∧ rv = .int .u64 R ∧ kv = .int .u64 ((2 ^ j / 2 : Nat) : Int) ∧ Hid (R = m * 2 ^ j) ∧ Hid (R * R ≤ a) ∧ Hid (a < (R + 2 ^ j) * (R + 2 ^ j)) ∧ Below W.heap.size W wr) (fun _ kv _ => (intOf kv).toNat)
  case atStart => exact ⟨0, 64, 0, by decide, rfl, rfl, (Nat.zero_mul _).symm, Nat.zero_le _, HS.out, Below.refl _ _⟩
  case round =>
    obtain ⟨R, j, m, hj, rfl, rfl, hmul, hlo, hup, hbel⟩ := hrel
    by_cases h0 : 0 < j
    · obtain ⟨i, rfl⟩ : ∃ i, j = i + 1 := ⟨j - 1, by omega⟩
      have lR := sq_lt hlo.out HA.out.2
      have pp : 2 ^ (i + 1) / 2 = 2 ^ i := by rw [Nat.pow_succ]; omega
      have p0 : 0 < 2 ^ i := Nat.pow_pos (by decide)
      have room : R + 2 ^ i < 18446744073709551616 := by rw [hmul.out]; exact or_room (by omega) (by rw [← hmul.out]; exact lR)
      have v1 : bits .or .u64 (R : Int) ((2 ^ i : Nat) : Int) = ((R + 2 ^ i : Nat) : Int) := by
        rw [u64_or_nat R (2 ^ i) lR (by omega), hmul.out, or_bit]
      have hup' : a < (R + 2 ^ i + 2 ^ i) * (R + 2 ^ i + 2 ^ i) := by
        have := hup.out
        rw [Nat.pow_succ, show R + 2 ^ i * 2 = R + 2 ^ i + 2 ^ i by omega] at this
        exact this
      have m1 : R = (m * 2) * 2 ^ i := by rw [hmul.out, Nat.pow_succ, Nat.mul_assoc, Nat.mul_comm 2]
      have m2 : R + 2 ^ i = (m * 2 + 1) * 2 ^ i := by rw [Nat.add_mul, Nat.one_mul, ← m1]
      have HM : Hid (R = (m * 2) * 2 ^ i ∧ R + 2 ^ i = (m * 2 + 1) * 2 ^ i) := ⟨m1, m2⟩
      clear m1 m2
      rw [pp]
      have v2 : ((2 ^ i : Nat) : Int) / 2 = ((2 ^ i / 2 : Nat) : Int) := by omega
      obtain ⟨p, hp⟩ : ∃ p, p = 2 ^ i := ⟨_, rfl⟩
      obtain ⟨s, hs⟩ : ∃ s, s = R + 2 ^ i := ⟨_, rfl⟩
      obtain ⟨n, hn⟩ : ∃ n, n = 2 ^ i / 2 := ⟨_, rfl⟩
      rw [← hs] at v1 hup' room
      rw [← hn] at v2
      rw [← hp] at v1 v2 p0 hup' ⊢
      have HP : Hid (p = 2 ^ i ∧ s = R + 2 ^ i ∧ n = 2 ^ i / 2) := ⟨hp, hs, hn⟩
      clear hp hs hn pp
      obtain ⟨h3, l3, t3⟩ := tw_some (n := s * s) (by have := Nat.mul_le_mul (show s ≤ 18446744073709551615 by omega) (show s ≤ 18446744073709551615 by omega); omega)
      have g1 := fun w => tmul_any (show s ≤ 18446744073709551615 by omega) (show s ≤ 18446744073709551615 by omega) t3 w
      have g2 := fun w => tcmp_any t3 HA.out.1 w
      obtain ⟨x, hx⟩ : ∃ x, x = cmpN (s * s) a := ⟨_, rfl⟩
      rw [← hx] at g2
      have hxx : (x ≤ 0 ∧ s * s ≤ a) ∨ (0 < x ∧ a < s * s) := by
        rw [hx]
        rcases Nat.lt_trichotomy (s * s) a with g | g | g
        · rw [cmpN_lt g]; exact .inl ⟨by decide, by omega⟩
        · rw [g, cmpN_eq]; exact .inl ⟨by decide, Nat.le_refl _⟩
        · rw [cmpN_gt g]; exact .inr ⟨by decide, g⟩
      have HU : Hid _ := hup'
      have px : ((p : Int) > 0) = True := by simp; omega
      clear hup' hx t3 room lR
      go_upto_region 5 with fail
      refine wpC_region (fun W => W.cell? ⟨w.heap.size, 0, none⟩ = some (.int .u64 h1) ∧ W.cell? ⟨w.heap.size, 1, none⟩ = some (.int .u64 l1)) (by kernel_rfl) ?_
      refine wpC_take 0 (v := ?_) rfl (by kernel_rfl) (fun _ _ _ h => h) (by kernel_rfl) ?_ ?_; rotate_left; · (intro wC hC; obtain ⟨c1, c2⟩ := hC; go_simp <;> with_reducible rfl)
      refine wpC_take 1 (v := ?_) rfl (by kernel_rfl) (fun _ _ _ h => h) (by kernel_rfl) ?_ ?_; rotate_left; · (intro wC hC; obtain ⟨c1, c2⟩ := hC; go_simp <;> with_reducible rfl)
      refine wpC_take 2 (v := ?_) rfl (by kernel_rfl) (fun _ _ _ h => h) (by kernel_rfl) ?_ ?_; rotate_left; · (intro wC hC; obtain ⟨c1, c2⟩ := hC; go_simp <;> with_reducible rfl)
      refine wpC_take 3 (v := ?_) rfl (by kernel_rfl) (fun _ _ _ h => h) (by kernel_rfl) ?_ ?_; rotate_left; · (intro wC hC; obtain ⟨c1, c2⟩ := hC; go_simp <;> with_reducible rfl)
      refine wpC_take 4 (v := ?_) rfl (by kernel_rfl) (fun _ _ _ h => h) (by kernel_rfl) ?_ ?_; rotate_left; · (intro wC hC; obtain ⟨c1, c2⟩ := hC; go_simp <;> with_reducible rfl)
      refine wpC_take 5 (v := ?_) rfl (by kernel_rfl) (fun _ _ _ h => h) (by kernel_rfl) ?_ ?_; rotate_left; · (intro wC hC; obtain ⟨c1, c2⟩ := hC; go_simp <;> with_reducible rfl)
      refine wpC_take 7 (v := ?_) rfl (by kernel_rfl) (fun _ _ _ h => h) (by kernel_rfl) ?_ ?_; rotate_left; · (intro wC hC; obtain ⟨c1, c2⟩ := hC; go_simp <;> with_reducible rfl)
      refine wpC_step 6 rfl (by kernel_rfl) (by kernel_rfl) (cls _ (bdrew hbel)) (fun K hK => ?_)
      go_simp
      go_wp2_with ((go_at_call 54; refine (g1 _).mono ?_; rintro e w1 ⟨rfl, hb1⟩; have B1 := bthen (bdrew hbel) hb1))
      try (refine hK _ _ ?_; clear hK K)
      refine wpC_step 8 rfl (by kernel_rfl) (by kernel_rfl) (cls _ B1) (fun K hK => ?_)
      go_simp
      go_wp2_with ((go_at_call 65; refine (g2 _).mono ?_; rintro e w2 ⟨rfl, hb2⟩; have B2 := bthen B1 hb2))
      try (refine hK _ _ ?_; clear hK K)
      refine wpC_step 9 rfl (by kernel_rfl) (by kernel_rfl) (cls _ B2) (fun K hK => ?_)
      go_simp
      try (refine hK _ _ ?_; clear hK K)
      refine wpC_done (by kernel_rfl) (cls _ B2) ?_
      rcases hxx with ⟨x1, x2⟩ | ⟨x1, x2⟩
      all_goals
        have HX : Hid _ := x2
        clear x2
        go_wp2
        go_roundw
        case measure => have := HP.out; simp [intOf]; omega
        case rel =>
          obtain ⟨e1, e2, e3⟩ := HP.out
          obtain ⟨m1, m2⟩ := HM.out
          first
            | exact ⟨s, i, m * 2 + 1, by omega, rfl, by rw [← e3], (by show _ = _; rw [e2]; exact m2), HX.out, (by show _ < _; rw [← e1]; exact HU.out), B2⟩
            | exact ⟨R, i, m * 2, by omega, rfl, by rw [← e3], m1, hlo.out, (by show _ < _; rw [← e2]; exact HX.out), B2⟩
    · have e : j = 0 := by omega
      subst e
      have hR : R = r := HR.out R hlo.out hup.out
      subst hR
      rw [show 2 ^ 0 / 2 = 0 from rfl]
      clear hmul hlo hup HS HR HA
      have y0 : W.heap.size ≤ wr.heap.size := hbel.size
      have r1 : Below wr.heap.size wr wr := Below.refl _ _
      go_upto_region 7 with fail
      go_cut [6, 7] from 25 (fun s11 s12 wx => ∃ n : Nat, s11 = .pointer (some ⟨n, 0, none⟩) ∧ Below wr.heap.size wr wx ∧ wr.heap.size ≤ n ∧ n < wx.heap.size ∧
        wx.cell? ⟨n, 0, none⟩ = some (.int .u64 h) ∧ wx.cell? ⟨n, 1, none⟩ = some (.int .u64 l))
      case first =>
        refine wpC_region (fun W => W.cell? ⟨w.heap.size, 0, none⟩ = some (.int .u64 h1) ∧ W.cell? ⟨w.heap.size, 1, none⟩ = some (.int .u64 l1)) (by kernel_rfl) ?_
        refine wpC_take 0 (v := ?_) rfl (by kernel_rfl) (fun _ _ _ h => h) (by kernel_rfl) ?_ ?_; rotate_left; · (intro wC hC; obtain ⟨c1, c2⟩ := hC; go_simp <;> with_reducible rfl)
        refine wpC_take 1 (v := ?_) rfl (by kernel_rfl) (fun _ _ _ h => h) (by kernel_rfl) ?_ ?_; rotate_left; · (intro wC hC; obtain ⟨c1, c2⟩ := hC; go_simp <;> with_reducible rfl)
        refine wpC_take 2 (v := ?_) rfl (by kernel_rfl) (fun _ _ _ h => h) (by kernel_rfl) ?_ ?_; rotate_left; · (intro wC hC; obtain ⟨c1, c2⟩ := hC; go_simp <;> with_reducible rfl)
        refine wpC_two 3 8 rfl rfl (by kernel_rfl) (by kernel_rfl) (by kernel_rfl) (cls _ (bdrew hbel)) (fun K hK => ?_) (fun K hK => ?_)
        · skip
          go_simp
          go_wp2_with ((go_at_call 54; refine (k1 _).mono ?_; rintro e w2 ⟨rfl, hb2⟩; have B2 := bthen (bdrew r1) hb2))
          try (refine hK _ _ ?_; clear hK K)
          have y2 : wr.heap.size ≤ w2.heap.size := B2.size
          refine wpC_two 4 8 rfl rfl (by kernel_rfl) (by kernel_rfl) (by kernel_rfl) (cls _ (bthen hbel B2)) (fun K hK => ?_) (fun K hK => ?_)
          · skip
            go_simp
            go_wp2_with ((go_at_call 113; refine (k2 _).mono ?_; rintro e w3 ⟨rfl, hb3⟩; have B3 := bthen B2 hb3))
            try (refine hK _ _ ?_; clear hK K)
            have y3 : wr.heap.size ≤ w3.heap.size := B3.size
            refine wpC_take 5 (v := ?_) rfl (by kernel_rfl) (fun _ _ _ h => h) (by kernel_rfl) ?_ ?_; rotate_left; · (intro wC hC; obtain ⟨c1, c2⟩ := hC; go_simp <;> with_reducible rfl)
            refine wpC_take 6 (v := ?_) rfl (by kernel_rfl) (fun _ _ _ h => h) (by kernel_rfl) ?_ ?_; rotate_left; · (intro wC hC; obtain ⟨c1, c2⟩ := hC; go_simp <;> with_reducible rfl)
            refine wpC_take 7 (v := ?_) rfl (by kernel_rfl) (fun _ _ _ h => h) (by kernel_rfl) ?_ ?_; rotate_left; · (intro wC hC; obtain ⟨c1, c2⟩ := hC; go_simp <;> with_reducible rfl)
            refine wpC_step 8 rfl (by kernel_rfl) (by kernel_rfl) (cls _ (bthen hbel B3)) (fun K hK => ?_)
            go_simp
            try (refine hK _ _ ?_; clear hK K)
            refine wpC_step 9 rfl (by kernel_rfl) (by kernel_rfl) (cls _ (bthen hbel (bmore B3 _))) (fun K hK => ?_)
            go_simp
            try (refine hK _ _ ?_; clear hK K)
            refine wpC_step 10 rfl (by kernel_rfl) (by kernel_rfl) (cls _ (bthen hbel (bmore B3 _))) (fun K hK => ?_)
            go_simp
            try (refine hK _ _ ?_; clear hK K)
            refine wpC_done (by kernel_rfl) (cls _ (bthen hbel (bmore B3 _))) ?_
            go_wp2_with fail
            go_meet
            case rel =>
              refine ⟨_, rfl, bmore B3 _, y3, by simp, ?_, ?_⟩ <;> simp [go_sem]
          · skip
            go_simp
            try (refine hK _ _ ?_; clear hK K)
            refine wpC_step 4 rfl (by kernel_rfl) (by kernel_rfl) (cls _ (bthen hbel (bmore B2 _))) (fun K hK => ?_)
            go_simp
            go_wp2_with ((go_at_call 113; refine (k2 _).mono ?_; rintro e w3 ⟨rfl, hb3⟩; have B3 := bthen (bmore B2 _) hb3; obtain ⟨hc3, hf3⟩ := bcell hb3; have y4 : w2.heap.size < w3.heap.size := (by have := hb3.size; simp at this; omega)))
            try (refine hK _ _ ?_; clear hK K)
            refine wpC_step 5 rfl (by kernel_rfl) (by kernel_rfl) (cls _ (bthen hbel B3)) (fun K hK => ?_)
            go_simp
            try (refine hK _ _ ?_; clear hK K)
            refine wpC_take 6 (v := ?_) rfl (by kernel_rfl) (fun _ _ _ h => h) (by kernel_rfl) ?_ ?_; rotate_left; · (intro wC hC; obtain ⟨c1, c2⟩ := hC; go_simp <;> with_reducible rfl)
            refine wpC_take 7 (v := ?_) rfl (by kernel_rfl) (fun _ _ _ h => h) (by kernel_rfl) ?_ ?_; rotate_left; · (intro wC hC; obtain ⟨c1, c2⟩ := hC; go_simp <;> with_reducible rfl)
            refine wpC_step 9 rfl (by kernel_rfl) (by kernel_rfl) (cls _ (bthen hbel B3)) (fun K hK => ?_)
            go_simp
            try (refine hK _ _ ?_; clear hK K)
            refine wpC_step 10 rfl (by kernel_rfl) (by kernel_rfl) (cls _ (bthen hbel (bset (bset B3 y2 _ _) y2 _ _))) (fun K hK => ?_)
            go_simp
            try (refine hK _ _ ?_; clear hK K)
            refine wpC_done (by kernel_rfl) (cls _ (bthen hbel (bset (bset B3 y2 _ _) y2 _ _))) ?_
            go_wp2_with fail
            go_meet
            case rel =>
              refine ⟨_, rfl, bset (bset B3 y2 _ _) y2 _ _, y2, by simp [y4], ?_, ?_⟩ <;> simp [go_sem, hc3]
        · skip
          go_simp
          try (refine hK _ _ ?_; clear hK K)
          refine wpC_step 3 rfl (by kernel_rfl) (by kernel_rfl) (cls _ (bthen hbel (bmore (bdrew r1) _))) (fun K hK => ?_)
          go_simp
          go_wp2_with ((go_at_call 54; refine (k1 _).mono ?_; rintro e w2 ⟨rfl, hb2⟩; obtain ⟨hc2, hf2⟩ := bcell hb2; have B2 := bthen (bmore (bdrew r1) _) hb2; have y4 : wr.heap.size < w2.heap.size := (by have := hb2.size; simp at this; omega)))
          try (refine hK _ _ ?_; clear hK K)
          refine wpC_step 4 rfl (by kernel_rfl) (by kernel_rfl) (cls _ (bthen hbel B2)) (fun K hK => ?_)
          go_simp
          go_wp2_with ((go_at_call 113; refine (k2 _).mono ?_; rintro e w3 ⟨rfl, hb3⟩; have B3 := bthen B2 hb3; obtain ⟨hc3, hf3⟩ := bcell hb3; have y5 : wr.heap.size < w3.heap.size := (by have := hb3.size; omega)))
          try (refine hK _ _ ?_; clear hK K)
          refine wpC_step 5 rfl (by kernel_rfl) (by kernel_rfl) (cls _ (bthen hbel B3)) (fun K hK => ?_)
          go_simp
          try (refine hK _ _ ?_; clear hK K)
          refine wpC_take 6 (v := ?_) rfl (by kernel_rfl) (fun _ _ _ h => h) (by kernel_rfl) ?_ ?_; rotate_left; · (intro wC hC; obtain ⟨c1, c2⟩ := hC; go_simp <;> with_reducible rfl)
          refine wpC_take 7 (v := ?_) rfl (by kernel_rfl) (fun _ _ _ h => h) (by kernel_rfl) ?_ ?_; rotate_left; · (intro wC hC; obtain ⟨c1, c2⟩ := hC; go_simp <;> with_reducible rfl)
          refine wpC_step 9 rfl (by kernel_rfl) (by kernel_rfl) (cls _ (bthen hbel B3)) (fun K hK => ?_)
          go_simp
          try (refine hK _ _ ?_; clear hK K)
          refine wpC_step 10 rfl (by kernel_rfl) (by kernel_rfl) (cls _ (bthen hbel (bset (bset B3 (Nat.le_refl _) _ _) (Nat.le_refl _) _ _))) (fun K hK => ?_)
          go_simp
          try (refine hK _ _ ?_; clear hK K)
          refine wpC_done (by kernel_rfl) (cls _ (bthen hbel (bset (bset B3 (Nat.le_refl _) _ _) (Nat.le_refl _) _ _))) ?_
          go_wp2_with fail
          go_meet
          case rel =>
            refine ⟨_, rfl, bset (bset B3 (Nat.le_refl _) _ _) (Nat.le_refl _) _ _, Nat.le_refl _, by simp [y5], ?_, ?_⟩ <;> simp [go_sem, hc2, hc3, y4]
      case rest =>
        obtain ⟨n, rfl, HB, n1, n2, c5, c6⟩ := hcut
        have H2 := bthen hbel HB
        obtain ⟨b1, b2, b3, b4⟩ := box _ H2
        have m1 : ¬ (w.heap.size + 1 = n) := by omega
        have m2 : ¬ (n = w.heap.size + 1) := by omega
        go_wp2
        go_region
        all_goals
          go_wp2
          refine bodyPost_ret (v := .tuple #[.int .u64 R, .agg #[.int .u64 h, .int .u64 l]]) (by simp [results, Try.results95, go_sem, b1, b2]) rfl (hQ.out _ _ ⟨rfl, ?_⟩)
          exact bdrew (bset (bset (bthen H0 H2) (by omega) _ _) (by omega) _ _)
end Go.Proofs.Ytheliihkkoohnaa

namespace Go.Proofs.Ytheliihkkoohnaa
open Go.ChangeShapes Go.WideShapes Go.ChangeAt Go.RowKit
set_option linter.unusedVariables false
set_option linter.unusedSimpArgs false
set_option maxRecDepth 100000

/-! ### package root, over the landed code -/
theorem ro_even {s : Int} {M : Nat} (h : Mant M) (he : s % 2 = 0) :
    rtH (mR s M) * rtH (mR s M) ≤ M / 2 ^ 1 ∧ M / 2 ^ 1 < (rtH (mR s M) + 1) * (rtH (mR s M) + 1) ∧
      (decide (M % 2 ^ 1 ≠ 0) || decide (M / 2 ^ 1 - rtH (mR s M) * rtH (mR s M) ≠ 0)) = rtR (mR s M) := by
  obtain ⟨a, b⟩ := mR_size s h
  obtain ⟨c1, c2⟩ := rtH_ok b
  have e : mR s M = M * 2 ^ 13 := by
    rcases mR_two s M with ⟨_, e⟩ | ⟨p, _⟩
    · exact e
    · omega
  unfold rtR
  generalize rtH (mR s M) = r at *
  rw [e] at c1 c2 ⊢
  generalize (r + 1) * (r + 1) = q at *
  generalize r * r = p at *
  refine ⟨by omega, by omega, ?_⟩
  rw [Bool.eq_iff_iff, Bool.or_eq_true, decide_eq_true_eq, decide_eq_true_eq, decide_eq_true_eq]
  omega
theorem ro_odd {s : Int} {M : Nat} (h : Mant M) (he : s % 2 = 1) :
    rtH (mR s M) * rtH (mR s M) ≤ M ∧ M < (rtH (mR s M) + 1) * (rtH (mR s M) + 1) ∧
      decide (M - rtH (mR s M) * rtH (mR s M) ≠ 0) = rtR (mR s M) := by
  obtain ⟨a, b⟩ := mR_size s h
  obtain ⟨c1, c2⟩ := rtH_ok b
  have e : mR s M = M * 2 ^ 14 := by
    rcases mR_two s M with ⟨p, _⟩ | ⟨_, e⟩
    · omega
    · exact e
  unfold rtR
  generalize rtH (mR s M) = r at *
  rw [e] at c1 c2 ⊢
  generalize (r + 1) * (r + 1) = q at *
  generalize r * r = p at *
  refine ⟨by omega, by omega, ?_⟩
  rw [Bool.eq_iff_iff, decide_eq_true_eq, decide_eq_true_eq]
  omega
theorem ro_tm {s : Int} : s.tmod 2 = 0 ↔ s % 2 = 0 :=
  ⟨fun h => Int.emod_eq_zero_of_dvd (Int.dvd_of_tmod_eq_zero h), fun h => Int.tmod_eq_zero_of_dvd (Int.dvd_of_emod_eq_zero h)⟩
theorem two_nought {n h l : Nat} (t : Tw n h l) : decide (n ≠ 0) = !(decide (h = 0) && decide (l = 0)) := by
  obtain ⟨e, _, _⟩ := t
  by_cases a : h = 0 <;> by_cases b : l = 0
  · subst a; subst b; rw [e]; rfl
  · rw [decide_eq_true a, decide_eq_false b, decide_eq_true (show n ≠ 0 by omega)]; rfl
  · rw [decide_eq_false a, decide_eq_true (show n ≠ 0 by omega)]; rfl
  · rw [decide_eq_false a, decide_eq_true (show n ≠ 0 by omega)]; rfl
set_option maxHeartbeats 2000000 in
theorem rodig_odd {a h1 l1 r h l : Nat} {x : Bool} (s : Int) (hs : s.tmod 2 ≠ 0) (ha : Tw a h1 l1) (r1 : r * r ≤ a) (r2 : a < (r + 1) * (r + 1)) (hl : Tw (a - r * r) h l) (hx : x = !(decide (h = 0) && decide (l = 0))) (w : World) :
    Calls Try.prog 57 #[.agg #[.int .u64 h1, .int .u64 l1], .int .i64 s] w fun e w' => e = .returned (.tuple #[.int .u64 r, .bool x]) ∧ Below w.heap.size w w' := by
  have k2 := fun w => proot_any ha r1 r2 hl w
  have d1 : (s.tmod 2 == 0) = false := beq_eq_false_iff_ne.2 hs
  have d2 : decide (s.tmod 2 = 0) = false := decide_eq_false hs
  have hcase : (h = 0 ∧ l = 0 ∧ x = false) ∨ (h = 0 ∧ ¬ (l : Int) = 0 ∧ x = true) ∨ (¬ (h : Int) = 0 ∧ x = true) := by
    by_cases g1 : h = 0
    · by_cases g2 : l = 0
      · exact .inl ⟨g1, g2, by rw [hx]; simp [g1, g2]⟩
      · exact .inr (.inl ⟨g1, by omega, by rw [hx]; simp [g2]⟩)
    · exact .inr (.inr ⟨by omega, by rw [hx]; simp [g1]⟩)
  clear hx hl r1 r2 ha hs
  rcases hcase with ⟨rfl, rfl, rfl⟩ | ⟨rfl, g2, rfl⟩ | ⟨g1, rfl⟩
  all_goals
    refine cps fun Q hQ => ?_
    go_enter Try.func57, Try.ntmps57
    go_wp2_with (go_at_call 95; go_must (refine (k2 _).mono ?_); rintro e w2 ⟨rfl, hb2⟩)
    go_quiet (fail)
    go_wp2
    exact hQ.out _ _ ⟨rfl, bdrewN (cmore (cthen (cmore (Below.refl _ _) _) hb2) _) _⟩
set_option maxHeartbeats 2000000 in
theorem rodig_even {a h1 l1 r h' l' h l : Nat} {o x : Bool} (s : Int) (hs : s.tmod 2 = 0) (ha : Tw a h1 l1) (h2 : Tw (a / 2 ^ 1) h' l') (ho : o = decide (a % 2 ^ 1 ≠ 0)) (r1 : r * r ≤ (a / 2 ^ 1)) (r2 : (a / 2 ^ 1) < (r + 1) * (r + 1)) (hl : Tw ((a / 2 ^ 1) - r * r) h l) (hx : x = (o || !(decide (h = 0) && decide (l = 0)))) (w : World) :
    Calls Try.prog 57 #[.agg #[.int .u64 h1, .int .u64 l1], .int .i64 s] w fun e w' => e = .returned (.tuple #[.int .u64 r, .bool x]) ∧ Below w.heap.size w w' := by
  have k1 := fun w => tshr_any (h := h') (l := l') (c := o) 1 (by decide) ha h2 ho w
  rw [show ((1 : Nat) : Int) = 1 from rfl] at k1
  have k2 := fun w => proot_any h2 r1 r2 hl w
  have d1 : (s.tmod 2 == 0) = true := beq_iff_eq.2 hs
  have d2 : decide (s.tmod 2 = 0) = true := decide_eq_true hs
  have hcase : (o = true ∧ x = true) ∨ (o = false ∧ h = 0 ∧ l = 0 ∧ x = false) ∨ (o = false ∧ h = 0 ∧ ¬ (l : Int) = 0 ∧ x = true) ∨ (o = false ∧ ¬ (h : Int) = 0 ∧ x = true) := by
    cases o
    · by_cases g1 : h = 0
      · by_cases g2 : l = 0
        · exact .inr (.inl ⟨rfl, g1, g2, by rw [hx]; simp [g1, g2]⟩)
        · exact .inr (.inr (.inl ⟨rfl, g1, by omega, by rw [hx]; simp [g2]⟩))
      · exact .inr (.inr (.inr ⟨rfl, by omega, by rw [hx]; simp [g1]⟩))
    · exact .inl ⟨rfl, by rw [hx]; rfl⟩
  clear hx hl r1 r2 ha h2 hs ho
  rcases hcase with ⟨rfl, rfl⟩ | ⟨rfl, rfl, rfl, rfl⟩ | ⟨rfl, rfl, g2, rfl⟩ | ⟨rfl, g1, rfl⟩
  all_goals
    refine cps fun Q hQ => ?_
    go_enter Try.func57, Try.ntmps57
    go_wp2_with (first
      | (go_at_call 95; have chk := HB1; go_must (refine (k2 _).mono ?_); rintro e w2 ⟨rfl, hb2⟩)
      | (go_at_call 67; go_must (refine (k1 _).mono ?_); rintro e w1 ⟨rfl, hb1⟩; have R1_0 := (hb1.block (w.heap.size) (by first | (simp; done) | (simp; omega) | omega)).trans (rownew' _ _ _ _ (by simp)); have z1_0 : w.heap.size < w1.heap.size := Nat.lt_of_lt_of_le (by first | (simp; done) | (simp; omega) | omega) hb1.size; have c1_0_0 := rowcell R1_0 0; have c1_0_1 := rowcell R1_0 1; simp only [List.getElem?_toArray, List.getElem?_cons_zero, List.getElem?_cons_succ] at c1_0_0 c1_0_1; have HR1_0 : Hid _ := R1_0; clear R1_0; have HB1 : Hid (Below _ _ _) := hb1; clear hb1; have f1 := rowfree HR1_0.out))
    go_quiet (fail)
    go_wp2
    exact hQ.out _ _ ⟨rfl, bdrewN (cmore (cthen (bset (bset (cthen (cmore (Below.refl _ _) _) HB1.out) (Nat.le_refl _) _ _) (Nat.le_refl _) _ _) hb2) _) _⟩
theorem rodig_any {s : Int} {hi lo : Nat} (hw : WordsX hi lo) (w : World) :
    Calls Try.prog 57 #[.agg #[.int .u64 hi, .int .u64 lo], .int .i64 s] w fun e w' => e = .returned (.tuple #[.int .u64 (rtH (mR s (manX hi lo)) : Nat), .bool (rtR (mR s (manX hi lo)))]) ∧ Below w.heap.size w w' := by
  have hm := hw.mant
  have ha : Tw (manX hi lo) hi lo := ⟨rfl, by have := hw.hi64; omega, by have := hw.lo64; omega⟩
  have hlt := ha.lt
  rcases Int.emod_two_eq s with c | c
  · obtain ⟨a1, a2, a3⟩ := ro_even hm c
    obtain ⟨h', l', t1⟩ := tw_some (n := manX hi lo / 2 ^ 1) (by omega)
    obtain ⟨h, l, t2⟩ := tw_some (n := manX hi lo / 2 ^ 1 - rtH (mR s (manX hi lo)) * rtH (mR s (manX hi lo))) (by omega)
    rw [two_nought t2] at a3
    exact rodig_even s (ro_tm.2 c) ha t1 rfl a1 a2 t2 a3.symm w
  · obtain ⟨a1, a2, a3⟩ := ro_odd hm c
    obtain ⟨h, l, t2⟩ := tw_some (n := manX hi lo - rtH (mR s (manX hi lo)) * rtH (mR s (manX hi lo))) (by omega)
    rw [two_nought t2] at a3
    exact rodig_odd s (fun h => by have := ro_tm.1 h; omega) ha a1 a2 t2 a3.symm w
theorem rodig_zero (w : World) :
    Calls Try.prog 57 #[.agg #[.int .u64 0, .int .u64 0], .int .i64 0] w fun e w' => e = .returned (.tuple #[.int .u64 0, .bool false]) ∧ Below w.heap.size w w' := by
  have t0 : Tw 0 0 0 := ⟨rfl, by decide, by decide⟩
  exact rodig_even (h' := 0) (l' := 0) (o := false) (r := 0) (h := 0) (l := 0) 0 rfl t0 t0 rfl (by decide) (by decide) t0 rfl w
/-! ### Exact -/
theorem rround_some (k : Int) (neg : Bool) (s : Int) (hi lo : Nat) (rest : Bool) (hh : hi < 2 ^ 64) (hl : lo < 2 ^ 64) (hs : soundX k neg s hi lo rest = true) :
    ∃ P : Nat, ∀ w, Calls Try.prog 21 #[.int .i64 (64 : Nat), exV k neg s hi lo rest] w fun e w' => e = .returned (.tuple #[.int .u64 P, .nilIface]) ∧ Below w.heap.size w w' := by
  have wd : Wd 64 := .inr (.inr (.inr rfl))
  by_cases c : k = 0 ∨ k = 2
  · have h := hs
    unfold soundX at h
    rw [if_pos c] at h
    obtain ⟨e1, e2, e3, e4, e5⟩ := of_decide_eq_true h
    subst e1; subst e2; subst e3; subst e4; subst e5
    rcases c with rfl | rfl
    · exact ⟨0, rround_zero 64 wd⟩
    · exact ⟨_, rround_nar 64 wd⟩
  · have h := hs
    unfold soundX at h
    rw [if_neg c] at h
    obtain ⟨e1, e2, _⟩ := of_decide_eq_true h
    subst e1
    exact ⟨_, rround_real 64 neg s hi lo rest wd hs ⟨e2, hh, hl⟩⟩
set_option maxHeartbeats 2000000 in
theorem rootx_bad (k : Int) (neg : Bool) (s : Int) (hi lo : Nat) (rest : Bool) (hh : hi < 2 ^ 64) (hl : lo < 2 ^ 64) (h1 : soundX k neg s hi lo rest = false) (w : World) :
    Calls Try.prog 33 #[exV k neg s hi lo rest] w fun e w' => e = .returned (.tuple #[exV 0 false 0 0 0 false, codeV 1]) ∧ Below w.heap.size w w' := by
  have k1 := rround_bad 64 k neg s hi lo rest (.inr (.inr (.inr rfl))) hh hl h1
  rw [show ((64 : Nat) : Int) = 64 from rfl] at k1
  clear hh hl h1
  unfold exV at *
  refine cps fun Q hQ => ?_
  go_enter Try.func33, Try.ntmps33
  go_wp2_with (first
    | (go_at_call 21; go_must (refine (k1 _).mono ?_); rintro e w1 ⟨rfl, hb1⟩; have R1_0 := (hb1.block (w.heap.size) (by first | (simp; done) | (simp; omega) | omega)).trans ((Below.heap_alloc _ _ _ (by first | (simp; done) | (simp; omega) | omega)).trans (rownew' _ _ _ _ (by simp))); have z1_0 : w.heap.size < w1.heap.size := Nat.lt_of_lt_of_le (by first | (simp; done) | (simp; omega) | omega) hb1.size; have c1_0_0 := rowcell R1_0 0; have c1_0_1 := rowcell R1_0 1; have c1_0_2 := rowcell R1_0 2; have c1_0_3 := rowcell R1_0 3; have c1_0_4 := rowcell R1_0 4; have c1_0_5 := rowcell R1_0 5; simp only [List.getElem?_toArray, List.getElem?_cons_zero, List.getElem?_cons_succ] at c1_0_0 c1_0_1 c1_0_2 c1_0_3 c1_0_4 c1_0_5; have HR1_0 : Hid _ := R1_0; clear R1_0; have R1_1 := (hb1.block (w.heap.size + 1) (by first | (simp; done) | (simp; omega) | omega)).trans (rownew' _ _ _ _ (by simp)); have z1_1 : w.heap.size + 1 < w1.heap.size := Nat.lt_of_lt_of_le (by first | (simp; done) | (simp; omega) | omega) hb1.size; have c1_1_0 := rowcell R1_1 0; have c1_1_1 := rowcell R1_1 1; have c1_1_2 := rowcell R1_1 2; have c1_1_3 := rowcell R1_1 3; have c1_1_4 := rowcell R1_1 4; have c1_1_5 := rowcell R1_1 5; simp only [List.getElem?_toArray, List.getElem?_cons_zero, List.getElem?_cons_succ] at c1_1_0 c1_1_1 c1_1_2 c1_1_3 c1_1_4 c1_1_5; have HR1_1 : Hid _ := R1_1; clear R1_1; have HB1 : Hid (Below _ _ _) := hb1; clear hb1; have f1 := rowfree HR1_1.out))
  refine bodyPost_ret (v := .tuple #[.agg #[.int .i64 0, .bool false, .int .i64 0, .int .u64 0, .int .u64 0, .bool false], codeV 1]) (by simp [results, Try.results33, go_sem, c1_1_0, c1_1_1, c1_1_2, c1_1_3, c1_1_4, c1_1_5, f1, z1_1]; done) rfl (hQ.out _ _ ⟨rfl, ?_⟩)
  exact cset6 (cthen (cmore (cmore (Below.refl _ _) _) _) HB1.out) (by omega)
set_option maxHeartbeats 2000000 in
theorem rootx_nar1 (k : Int) (neg : Bool) (s : Int) (hi lo : Nat) (rest : Bool) (hh : hi < 2 ^ 64) (hl : lo < 2 ^ 64) (h1 : soundX k neg s hi lo rest = true) (hk : k = 2) (w : World) :
    Calls Try.prog 33 #[exV k neg s hi lo rest] w fun e w' => e = .returned (.tuple #[exV 2 false 0 0 0 false, .nilIface]) ∧ Below w.heap.size w w' := by
  obtain ⟨P, k1⟩ := rround_some k neg s hi lo rest hh hl h1
  rw [show ((64 : Nat) : Int) = 64 from rfl] at k1
  have d1 : (k == 2) = true := by rw [hk]; rfl
  clear hk
  clear hh hl h1
  unfold exV at *
  refine cps fun Q hQ => ?_
  go_enter Try.func33, Try.ntmps33
  go_wp2_with (first
    | (go_at_call 21; go_must (refine (k1 _).mono ?_); rintro e w1 ⟨rfl, hb1⟩; have R1_0 := (hb1.block (w.heap.size) (by first | (simp; done) | (simp; omega) | omega)).trans ((Below.heap_alloc _ _ _ (by first | (simp; done) | (simp; omega) | omega)).trans (rownew' _ _ _ _ (by simp))); have z1_0 : w.heap.size < w1.heap.size := Nat.lt_of_lt_of_le (by first | (simp; done) | (simp; omega) | omega) hb1.size; have c1_0_0 := rowcell R1_0 0; have c1_0_1 := rowcell R1_0 1; have c1_0_2 := rowcell R1_0 2; have c1_0_3 := rowcell R1_0 3; have c1_0_4 := rowcell R1_0 4; have c1_0_5 := rowcell R1_0 5; simp only [List.getElem?_toArray, List.getElem?_cons_zero, List.getElem?_cons_succ] at c1_0_0 c1_0_1 c1_0_2 c1_0_3 c1_0_4 c1_0_5; have HR1_0 : Hid _ := R1_0; clear R1_0; have R1_1 := (hb1.block (w.heap.size + 1) (by first | (simp; done) | (simp; omega) | omega)).trans (rownew' _ _ _ _ (by simp)); have z1_1 : w.heap.size + 1 < w1.heap.size := Nat.lt_of_lt_of_le (by first | (simp; done) | (simp; omega) | omega) hb1.size; have c1_1_0 := rowcell R1_1 0; have c1_1_1 := rowcell R1_1 1; have c1_1_2 := rowcell R1_1 2; have c1_1_3 := rowcell R1_1 3; have c1_1_4 := rowcell R1_1 4; have c1_1_5 := rowcell R1_1 5; simp only [List.getElem?_toArray, List.getElem?_cons_zero, List.getElem?_cons_succ] at c1_1_0 c1_1_1 c1_1_2 c1_1_3 c1_1_4 c1_1_5; have HR1_1 : Hid _ := R1_1; clear R1_1; have HB1 : Hid (Below _ _ _) := hb1; clear hb1; have f1 := rowfree HR1_1.out))
  refine bodyPost_ret (v := .tuple #[.agg #[.int .i64 2, .bool false, .int .i64 0, .int .u64 0, .int .u64 0, .bool false], .nilIface]) (by simp [results, Try.results33, go_sem, c1_1_0, c1_1_1, c1_1_2, c1_1_3, c1_1_4, c1_1_5, f1, z1_1]; done) rfl (hQ.out _ _ ⟨rfl, ?_⟩)
  exact cset6 (cthen (cmore (cmore (Below.refl _ _) _) _) HB1.out) (by omega)
set_option maxHeartbeats 2000000 in
theorem rootx_nar2 (k : Int) (neg : Bool) (s : Int) (hi lo : Nat) (rest : Bool) (hh : hi < 2 ^ 64) (hl : lo < 2 ^ 64) (h1 : soundX k neg s hi lo rest = true) (hk : k ≠ 2) (hn : neg = true) (w : World) :
    Calls Try.prog 33 #[exV k neg s hi lo rest] w fun e w' => e = .returned (.tuple #[exV 2 false 0 0 0 false, .nilIface]) ∧ Below w.heap.size w w' := by
  obtain ⟨P, k1⟩ := rround_some k neg s hi lo rest hh hl h1
  rw [show ((64 : Nat) : Int) = 64 from rfl] at k1
  have d1 : (k == 2) = false := beq_eq_false_iff_ne.2 hk
  subst hn
  clear hk
  clear hh hl h1
  unfold exV at *
  refine cps fun Q hQ => ?_
  go_enter Try.func33, Try.ntmps33
  go_wp2_with (first
    | (go_at_call 21; go_must (refine (k1 _).mono ?_); rintro e w1 ⟨rfl, hb1⟩; have R1_0 := (hb1.block (w.heap.size) (by first | (simp; done) | (simp; omega) | omega)).trans ((Below.heap_alloc _ _ _ (by first | (simp; done) | (simp; omega) | omega)).trans (rownew' _ _ _ _ (by simp))); have z1_0 : w.heap.size < w1.heap.size := Nat.lt_of_lt_of_le (by first | (simp; done) | (simp; omega) | omega) hb1.size; have c1_0_0 := rowcell R1_0 0; have c1_0_1 := rowcell R1_0 1; have c1_0_2 := rowcell R1_0 2; have c1_0_3 := rowcell R1_0 3; have c1_0_4 := rowcell R1_0 4; have c1_0_5 := rowcell R1_0 5; simp only [List.getElem?_toArray, List.getElem?_cons_zero, List.getElem?_cons_succ] at c1_0_0 c1_0_1 c1_0_2 c1_0_3 c1_0_4 c1_0_5; have HR1_0 : Hid _ := R1_0; clear R1_0; have R1_1 := (hb1.block (w.heap.size + 1) (by first | (simp; done) | (simp; omega) | omega)).trans (rownew' _ _ _ _ (by simp)); have z1_1 : w.heap.size + 1 < w1.heap.size := Nat.lt_of_lt_of_le (by first | (simp; done) | (simp; omega) | omega) hb1.size; have c1_1_0 := rowcell R1_1 0; have c1_1_1 := rowcell R1_1 1; have c1_1_2 := rowcell R1_1 2; have c1_1_3 := rowcell R1_1 3; have c1_1_4 := rowcell R1_1 4; have c1_1_5 := rowcell R1_1 5; simp only [List.getElem?_toArray, List.getElem?_cons_zero, List.getElem?_cons_succ] at c1_1_0 c1_1_1 c1_1_2 c1_1_3 c1_1_4 c1_1_5; have HR1_1 : Hid _ := R1_1; clear R1_1; have HB1 : Hid (Below _ _ _) := hb1; clear hb1; have f1 := rowfree HR1_1.out))
  refine bodyPost_ret (v := .tuple #[.agg #[.int .i64 2, .bool false, .int .i64 0, .int .u64 0, .int .u64 0, .bool false], .nilIface]) (by simp [results, Try.results33, go_sem, c1_1_0, c1_1_1, c1_1_2, c1_1_3, c1_1_4, c1_1_5, f1, z1_1]; done) rfl (hQ.out _ _ ⟨rfl, ?_⟩)
  exact cset6 (cthen (cmore (cmore (Below.refl _ _) _) _) HB1.out) (by omega)
set_option maxHeartbeats 2000000 in
theorem rootx_real (k : Int) (neg : Bool) (s : Int) (hi lo : Nat) (rest : Bool) (hh : hi < 2 ^ 64) (hl : lo < 2 ^ 64) (h1 : soundX k neg s hi lo rest = true) (hk : k ≠ 2) (hn : neg = false) {dg : Nat} {lf : Bool} (k2 : ∀ w, Calls Try.prog 57 #[.agg #[.int .u64 hi, .int .u64 lo], .int .i64 s] w fun e w' => e = .returned (.tuple #[.int .u64 dg, .bool lf]) ∧ Below w.heap.size w w') (m1 : dg < 2 ^ 64) (m2 : (lf || rest) = false ∨ 9223372036854775808 ≤ dg) (w : World) :
    Calls Try.prog 33 #[exV k neg s hi lo rest] w fun e w' => e = .returned (.tuple #[exactV false (manX dg 0) (s / 2 - 127) (lf || rest), .nilIface]) ∧ Below w.heap.size w w' := by
  obtain ⟨P, k1⟩ := rround_some k neg s hi lo rest hh hl h1
  rw [show ((64 : Nat) : Int) = 64 from rfl] at k1
  have hb : -1099511627776 ≤ s ∧ s ≤ 1099511627776 := by
    unfold soundX at h1
    by_cases c : k = 0 ∨ k = 2
    · rw [if_pos c] at h1; have := (of_decide_eq_true h1).2.1; omega
    · rw [if_neg c] at h1; exact (of_decide_eq_true h1).2.2
  have d1 : (k == 2) = false := beq_eq_false_iff_ne.2 hk
  obtain ⟨r, hr⟩ : ∃ r, r = dg := ⟨_, rfl⟩
  obtain ⟨x, hx⟩ : ∃ x, x = lf := ⟨_, rfl⟩
  obtain ⟨y, hy⟩ : ∃ y, y = (x || rest) := ⟨_, rfl⟩
  rw [← hr, ← hx] at k2
  have k3 := rmake_ok false r 0 (s / 2 - 127) y (by rw [hr]; exact m1) (by decide) (by omega) (by
    rw [hy, hx, hr]; exact m2)
  rw [← hr, ← hx, ← hy]
  obtain ⟨K, B, S, H, L, R, hform⟩ := exactV_form false (manX r 0) (s / 2 - 127) y
  rw [hform] at k3 ⊢
  have e1 : IntKind.i64.wrap (s / 2) = s / 2 := wrapI (by omega)
  have e2 : IntKind.i64.wrap (s / 2 - 127) = s / 2 - 127 := wrapI (by omega)
  rw [show ((0 : Nat) : Int) = 0 from rfl] at k3
  have ycase : (x = true ∧ y = true) ∨ (x = false ∧ y = rest) := by rw [hy]; cases x; exact .inr ⟨rfl, rfl⟩; exact .inl ⟨rfl, rfl⟩
  subst hn
  clear hform hb hk hr hx hy m1 m2
  clear hh hl h1
  unfold exV at *
  rcases ycase with ⟨rfl, rfl⟩ | ⟨rfl, rfl⟩
  all_goals
    refine cps fun Q hQ => ?_
    go_enter Try.func33, Try.ntmps33
    go_wp2_with (first
      | (go_at_call 21; go_must (refine (k1 _).mono ?_); rintro e w1 ⟨rfl, hb1⟩; have R1_0 := (hb1.block (w.heap.size) (by first | (simp; done) | (simp; omega) | omega)).trans ((Below.heap_alloc _ _ _ (by first | (simp; done) | (simp; omega) | omega)).trans (rownew' _ _ _ _ (by simp))); have z1_0 : w.heap.size < w1.heap.size := Nat.lt_of_lt_of_le (by first | (simp; done) | (simp; omega) | omega) hb1.size; have c1_0_0 := rowcell R1_0 0; have c1_0_1 := rowcell R1_0 1; have c1_0_2 := rowcell R1_0 2; have c1_0_3 := rowcell R1_0 3; have c1_0_4 := rowcell R1_0 4; have c1_0_5 := rowcell R1_0 5; simp only [List.getElem?_toArray, List.getElem?_cons_zero, List.getElem?_cons_succ] at c1_0_0 c1_0_1 c1_0_2 c1_0_3 c1_0_4 c1_0_5; have HR1_0 : Hid _ := R1_0; clear R1_0; have R1_1 := (hb1.block (w.heap.size + 1) (by first | (simp; done) | (simp; omega) | omega)).trans (rownew' _ _ _ _ (by simp)); have z1_1 : w.heap.size + 1 < w1.heap.size := Nat.lt_of_lt_of_le (by first | (simp; done) | (simp; omega) | omega) hb1.size; have c1_1_0 := rowcell R1_1 0; have c1_1_1 := rowcell R1_1 1; have c1_1_2 := rowcell R1_1 2; have c1_1_3 := rowcell R1_1 3; have c1_1_4 := rowcell R1_1 4; have c1_1_5 := rowcell R1_1 5; simp only [List.getElem?_toArray, List.getElem?_cons_zero, List.getElem?_cons_succ] at c1_1_0 c1_1_1 c1_1_2 c1_1_3 c1_1_4 c1_1_5; have HR1_1 : Hid _ := R1_1; clear R1_1; have HB1 : Hid (Below _ _ _) := hb1; clear hb1; have f1 := rowfree HR1_1.out)
      | (go_at_call 57; go_must (refine (k2 _).mono ?_); rintro e w2 ⟨rfl, hb2⟩; have R2_0 := (hb2.block (w.heap.size) (by first | (simp; done) | (simp; omega) | omega)).trans HR1_0.out; have z2_0 : w.heap.size < w2.heap.size := Nat.lt_of_lt_of_le (by first | (simp; done) | (simp; omega) | omega) hb2.size; have c2_0_0 := rowcell R2_0 0; have c2_0_1 := rowcell R2_0 1; have c2_0_2 := rowcell R2_0 2; have c2_0_3 := rowcell R2_0 3; have c2_0_4 := rowcell R2_0 4; have c2_0_5 := rowcell R2_0 5; simp only [List.getElem?_toArray, List.getElem?_cons_zero, List.getElem?_cons_succ] at c2_0_0 c2_0_1 c2_0_2 c2_0_3 c2_0_4 c2_0_5; have HR2_0 : Hid _ := R2_0; clear R2_0; have R2_1 := (hb2.block (w.heap.size + 1) (by first | (simp; done) | (simp; omega) | omega)).trans HR1_1.out; have z2_1 : w.heap.size + 1 < w2.heap.size := Nat.lt_of_lt_of_le (by first | (simp; done) | (simp; omega) | omega) hb2.size; have c2_1_0 := rowcell R2_1 0; have c2_1_1 := rowcell R2_1 1; have c2_1_2 := rowcell R2_1 2; have c2_1_3 := rowcell R2_1 3; have c2_1_4 := rowcell R2_1 4; have c2_1_5 := rowcell R2_1 5; simp only [List.getElem?_toArray, List.getElem?_cons_zero, List.getElem?_cons_succ] at c2_1_0 c2_1_1 c2_1_2 c2_1_3 c2_1_4 c2_1_5; have HR2_1 : Hid _ := R2_1; clear R2_1; have HB2 : Hid (Below _ _ _) := hb2; clear hb2)
      | (go_at_call 43; go_must (refine (k3 _).mono ?_); rintro e w3 ⟨rfl, hb3⟩; have R3_0 := (hb3.block (w.heap.size) (by first | (simp; done) | (simp; omega) | omega)).trans HR2_0.out; have z3_0 : w.heap.size < w3.heap.size := Nat.lt_of_lt_of_le (by first | (simp; done) | (simp; omega) | omega) hb3.size; have HR3_0 : Hid _ := R3_0; clear R3_0; have R3_1 := (hb3.block (w.heap.size + 1) (by first | (simp; done) | (simp; omega) | omega)).trans HR2_1.out; have z3_1 : w.heap.size + 1 < w3.heap.size := Nat.lt_of_lt_of_le (by first | (simp; done) | (simp; omega) | omega) hb3.size; have c3_1_0 := rowcell R3_1 0; have c3_1_1 := rowcell R3_1 1; have c3_1_2 := rowcell R3_1 2; have c3_1_3 := rowcell R3_1 3; have c3_1_4 := rowcell R3_1 4; have c3_1_5 := rowcell R3_1 5; simp only [List.getElem?_toArray, List.getElem?_cons_zero, List.getElem?_cons_succ] at c3_1_0 c3_1_1 c3_1_2 c3_1_3 c3_1_4 c3_1_5; have HR3_1 : Hid _ := R3_1; clear R3_1; have HB3 : Hid (Below _ _ _) := hb3; clear hb3; have f3 := rowfree HR3_1.out))
    refine bodyPost_ret (v := .tuple #[.agg #[.int .i64 K, .bool B, .int .i64 S, .int .u64 H, .int .u64 L, .bool R], .nilIface]) (by simp [results, Try.results33, go_sem, c3_1_0, c3_1_1, c3_1_2, c3_1_3, c3_1_4, c3_1_5, f3, z3_1]; done) rfl (hQ.out _ _ ⟨rfl, ?_⟩)
    exact cset6 (cthen (cthen (cthen (cmore (cmore (Below.refl _ _) _) _) HB1.out) HB2.out) HB3.out) (by omega)
theorem rootx_ok (k : Int) (neg : Bool) (s : Int) (hi lo : Nat) (rest : Bool) (hh : hi < 2 ^ 64) (hl : lo < 2 ^ 64) (h : soundX k neg s hi lo rest = true) (w : World) :
    Calls Try.prog 33 #[exV k neg s hi lo rest] w fun e w' => e = .returned (.tuple #[root12 k neg s hi lo rest, .nilIface]) ∧ Below w.heap.size w w' := by
  unfold root12
  by_cases a2 : k = 2
  · rw [if_pos (.inl a2)]; exact rootx_nar1 k neg s hi lo rest hh hl h a2 w
  · by_cases an : neg = true
    · rw [if_pos (.inr an)]; exact rootx_nar2 k neg s hi lo rest hh hl h a2 an w
    · rw [if_neg (by rintro (c | c); exact a2 c; exact an c)]
      have an' : neg = false := by cases neg; rfl; exact absurd rfl an
      by_cases a0 : k = 0
      · rw [if_pos a0]
        have hs := h
        unfold soundX at hs
        rw [if_pos (.inl a0)] at hs
        obtain ⟨_, e2, e3, e4, e5⟩ := of_decide_eq_true hs
        subst e2; subst e3; subst e4; subst e5
        have := rootx_real k neg 0 0 0 false hh hl h a2 an' rodig_zero (by decide) (.inl rfl) w
        rw [show manX 0 0 = 0 from rfl, exactV_zero] at this
        exact this
      · rw [if_neg a0]
        have hs := h
        unfold soundX at hs
        rw [if_neg (by omega)] at hs
        obtain ⟨e1, e2, e3, e4⟩ := of_decide_eq_true hs
        have hw : WordsX hi lo := ⟨e2, hh, hl⟩
        obtain ⟨m1, m2⟩ := mR_size s hw.mant
        have wd := (rt_words m1 m2).2.2
        have := rootx_real k neg s hi lo rest hh hl h a2 an' (rodig_any hw) wd.hi64 (.inr wd.top) w
        have b1 := wd.top
        have b2 := wd.hi64
        generalize rtH (mR s (manX hi lo)) = r at *
        have b : blen (manX r 0) = 128 := blen_at (m := 127) (by unfold manX; omega) (by unfold manX; omega)
        have nz : manX r 0 ≠ 0 := by unfold manX; omega
        have n1 : normN (manX r 0) = r * 2 ^ 64 := by unfold normN; rw [b]; rw [if_neg (by decide), Nat.sub_self, Nat.pow_zero, Nat.div_one]; unfold manX; rw [Nat.add_zero]
        have n2 : lostN (manX r 0) = false := by unfold lostN; rw [b]; rfl
        unfold exactV at this
        rw [if_neg nz, n1, n2, b, Nat.mul_div_cancel _ (by decide), Nat.mod_eq_of_lt b2, Nat.mul_mod_left, Bool.or_false,
          show s / 2 - 127 + ((128 : Nat) : Int) - 1 = s / 2 by omega] at this
        have hh : heldX (s / 2) = s / 2 := by unfold heldX; rw [if_neg (by omega), if_neg (by omega)]
        rw [hh] at this
        exact this
/-! ### Sqrt -/
theorem rround_root (n a : Nat) (hn : Wd n) (ha : a < 2 ^ 64) (w : World) :
    Calls Try.prog 21 #[.int .i64 n, root12 (vK n a) (vB n a) (vS n a) (vF n a) 0 false] w fun r w' => r = .returned (.tuple #[.int .u64 (patT2 n a : Nat), .nilIface]) ∧ Below w.heap.size w w' := by
  unfold root12 patT2
  by_cases h : vK n a = 2 ∨ vB n a = true
  · rw [if_pos h, if_pos h]
    exact rround_nar n hn w
  · rw [if_neg h, if_neg h]
    by_cases h0 : vK n a = 0
    · rw [if_pos h0, if_pos h0]
      exact rround_zero n hn w
    · rw [if_neg h0, if_neg h0, Bool.or_false]
      have a1 := real_or n a hn (fun c => h (.inl c)) h0
      obtain ⟨_, _, _, _, _, _, wa, s1, s2⟩ := v_real n a hn ha a1
      have hw := wd_le hn
      obtain ⟨m1, m2⟩ := mR_size (vS n a) wa.mant
      have wd := (rt_words m1 m2).2.2
      unfold mgT
      refine rround_real n false _ _ 0 _ hn ?_ wd w
      unfold soundX
      rw [if_neg (by decide)]
      exact decide_eq_true ⟨rfl, wd.top, by omega, by omega⟩
end Go.Proofs.Ytheliihkkoohnaa
