import Derived.Test.YtheliihkkoohnaaJoin2
import Derived.Test.YtheliihkkoohnaaJoin1
namespace Go.Proofs.Ytheliihkkoohnaa
open Go.ChangeShapes Go.WideShapes Go.ChangeAt Go.RowKit
set_option linter.unusedVariables false
set_option linter.unusedSimpArgs false
set_option maxRecDepth 100000

/-! ### a natural number's first 128 bits, and whether something is lost -/
def normN (M : Nat) : Nat := if blen M < 128 then M * 2 ^ (128 - blen M) else M / 2 ^ (blen M - 128)
def lostN (M : Nat) : Bool := decide (128 < blen M) && decide (M % 2 ^ (blen M - 128) ≠ 0)
def exactV (neg : Bool) (M : Nat) (exp : Int) (rest : Bool) : Value :=
  if M = 0 then exV 0 false 0 0 0 false else exV 1 neg (heldX (exp + blen M - 1)) (normN M / 2 ^ 64 % 2 ^ 64) (normN M % 2 ^ 64) (rest || lostN M)
theorem blen_lo {M : Nat} (h : M ≠ 0) : 2 ^ (blen M - 1) ≤ M := by
  have := @blen_le M (blen M - 1)
  have hp : blen M ≠ 0 := by rw [blen_pos h]; omega
  refine Nat.le_of_not_lt fun hlt => ?_
  have := this.2 hlt
  omega
theorem blen_hi (M : Nat) : M < 2 ^ blen M := blen_le.1 (Nat.le_refl _)
/-- the first of the 128 bits is a 1 -/
theorem normN_mant {M : Nat} (h : M ≠ 0) : 2 ^ 127 ≤ normN M ∧ normN M < 2 ^ 128 := by
  have h1 := blen_lo h
  have h2 := blen_hi M
  have hp : 1 ≤ blen M := by rw [blen_pos h]; omega
  unfold normN
  split
  · rename_i hc
    constructor
    · have := Nat.mul_le_mul_right (2 ^ (128 - blen M)) h1
      rwa [← Nat.pow_add, show blen M - 1 + (128 - blen M) = 127 by omega] at this
    · have := Nat.mul_lt_mul_of_pos_right h2 (show 0 < 2 ^ (128 - blen M) from Nat.pow_pos (by decide))
      rwa [← Nat.pow_add, show blen M + (128 - blen M) = 128 by omega] at this
  · rename_i hc
    constructor
    · rw [Nat.le_div_iff_mul_le (Nat.pow_pos (by decide)), ← Nat.pow_add, show 127 + (blen M - 128) = blen M - 1 by omega]
      exact h1
    · rw [Nat.div_lt_iff_lt_mul (Nat.pow_pos (by decide)), ← Nat.pow_add, show 128 + (blen M - 128) = blen M by omega]
      exact h2
theorem normN_words {M : Nat} (h : M ≠ 0) : WordsX (normN M / 2 ^ 64 % 2 ^ 64) (normN M % 2 ^ 64) := by
  obtain ⟨h1, h2⟩ := normN_mant h
  have e1 : normN M / 2 ^ 64 < 2 ^ 64 := by rw [Nat.div_lt_iff_lt_mul (Nat.pow_pos (by decide)), ← Nat.pow_add]; exact h2
  have e2 : 2 ^ 63 ≤ normN M / 2 ^ 64 := by rw [Nat.le_div_iff_mul_le (Nat.pow_pos (by decide)), ← Nat.pow_add]; exact h1
  rw [Nat.mod_eq_of_lt e1]
  exact ⟨e2, e1, Nat.mod_lt _ (by decide)⟩
end Go.Proofs.Ytheliihkkoohnaa

namespace Go.Proofs.Ytheliihkkoohnaa
open Go.ChangeShapes Go.WideShapes Go.ChangeAt Go.RowKit
set_option linter.unusedVariables false
set_option linter.unusedSimpArgs false
set_option maxRecDepth 100000

theorem Row.setU {w : World} {v : Value} {l : List Nat} (h : Row w v l) (m k : Nat) (u u' : Value) (hc : w.cell? ⟨m, k, none⟩ = some u) (hu : ∀ x, u ≠ .int .i64 x) : Row (w.setCell ⟨m, k, none⟩ u') v l := by
  obtain ⟨ao, c, rfl, hc1, hl, h⟩ := h
  refine ⟨ao, c, rfl, hc1, hl, ?_⟩
  rcases h with h | ⟨b, off, rfl, hlt, h⟩
  · exact .inl h
  · refine .inr ⟨b, off, rfl, hlt.set, fun j hj => ?_⟩
    have hj2 := h j hj
    have hne : (⟨m, k, none⟩ : Addr) ≠ ⟨b, off + j, none⟩ := fun e => by
      rw [← e, hc] at hj2
      exact hu _ (Option.some.inj hj2)
    rw [World.cell?_setCell_other _ _ _ _ hne]
    exact hj2
theorem dlen_of_blen {M : Nat} (h : blen M ≤ 1099511627776) : dlen M ≤ 1099511627776 := by
  refine Nat.le_trans (dlen_le_of_lt ?_) h
  refine Nat.lt_of_lt_of_le (blen_hi M) ?_
  rw [show (16777216 : Nat) = 2 ^ 24 by decide, ← Nat.pow_mul]
  exact Nat.pow_le_pow_right (by decide) (by omega)
theorem dlen_mant {K : Nat} (h : K < 2 ^ 128) : dlen K ≤ 1099511627776 := by
  refine Nat.le_trans (dlen_le_of_lt (k := 6) (Nat.lt_of_lt_of_le h (by decide))) (by decide)
theorem heldX_bounds (s : Int) : -1099511627776 ≤ heldX s ∧ heldX s ≤ 1099511627776 := by unfold heldX; split <;> (try split) <;> omega
theorem cset6 {a W : World} {m : Nat} {v0 v1 v2 v3 v4 v5 : Value} (h : Below a.heap.size a W) (hb : a.heap.size ≤ m) :
    Below a.heap.size a ((((((W.setCell ⟨m, 0, none⟩ v0).setCell ⟨m, 1, none⟩ v1).setCell ⟨m, 2, none⟩ v2).setCell ⟨m, 3, none⟩ v3).setCell ⟨m, 4, none⟩ v4).setCell ⟨m, 5, none⟩ v5) :=
  cset (cset (cset (cset (cset (cset h hb 0 v0) hb 1 v1) hb 2 v2) hb 3 v3) hb 4 v4) hb 5 v5
theorem exactly7_lo (neg : Bool) (v : Value) (M : Nat) (exp : Int) (rest : Bool) (h0 : M ≠ 0) (hb : blen M ≤ 1099511627776) (he : -1152921504606846976 ≤ exp ∧ exp ≤ 1152921504606846976) (hc : blen M < 128) (w : World) (hr : Row w v (dig M)) :
    Calls Try.prog 46 #[.bool neg, v, .int .i64 exp, .bool rest] w fun e w' => e = .returned (exactV neg M exp rest) ∧ Below w.heap.size w w' := by
  have hS := dlen_of_blen hb
  obtain ⟨hK1, hK2⟩ := normN_mant h0
  have hSK := dlen_mant hK2
  have hp : 1 ≤ blen M := by rw [blen_pos h0]; omega
  have hv : exactV neg M exp rest = exV 1 neg (heldX (exp + blen M - 1)) (normN M / 2 ^ 64 % 2 ^ 64) (normN M % 2 ^ 64) (rest || lostN M) := by unfold exactV; rw [if_neg h0]
  rw [hv]
  have k1 := fun w hw => nbits_anyq v M hS w hw
  have k2 := held7_any (exp + blen M - 1)
  have hhb := heldX_bounds (exp + blen M - 1)
  have kw := fun v w hw => nword_anyq v (normN M) w hw
  have ks := fun v w hw => nshr_anyq v (normN M) 64 (by decide) hSK w hw
  have kx := fun v w hw => nword_anyq v (normN M / 2 ^ 64) w hw
  have k3 := fun w hw => nshl_anyq v M (128 - blen M) (by omega) hS w hw
  rw [show M * 2 ^ (128 - blen M) = normN M by unfold normN; rw [if_pos hc]] at k3
  have hl : (rest || lostN M) = rest := by unfold lostN; rw [decide_eq_false (by omega)]; simp
  rw [hl]
  have hd : (128 : Int) - ((blen M : Nat) : Int) = ((128 - blen M : Nat) : Int) := by omega
  obtain ⟨d, hdd⟩ : ∃ d, d = 128 - blen M := ⟨_, rfl⟩
  rw [← hdd] at k3 hd
  have g1 : decide (((blen M : Nat) : Int) < 128) = true := decide_eq_true (by omega)
  have g2 : decide ((128 : Int) < ((blen M : Nat) : Int)) = false := decide_eq_false (by omega)
  have hb1 : 1 ≤ ((blen M : Nat) : Int) ∧ ((blen M : Nat) : Int) ≤ 1099511627776 := by omega
  have g0 : (((blen M : Nat) : Int) == 0) = false := beq_eq_false_iff_ne.2 (by omega)
  clear hv hp hK1 hK2 hSK
  clear hl
  generalize heldX (exp + blen M - 1) = hx at *
  have HR : Hid (Row w v (dig M)) := hr
  generalize normN M % 2 ^ 64 = lo at *
  generalize normN M / 2 ^ 64 % 2 ^ 64 = hi at *
  generalize normN M / 2 ^ 64 = K2 at *
  generalize normN M = K at *
  clear hr hb hc h0
  clear hdd
  generalize ((blen M : Nat) : Int) = n at *
  refine cps fun Q hQ => ?_
  unfold exV at *
  go_enter Try.func46, Try.ntmps46
  go_wp2_with (first
    | (go_at_call 77; go_must (refine (k1 _ (HR.out.below (cmore (Below.refl _ _) _))).mono ?_); rintro e wx ⟨rfl, hwx⟩; rw [hwx]; clear hwx wx)
    | (go_at_call 78; go_must (refine (k2 _).mono ?_); rintro e wx ⟨rfl, hwx⟩; rw [hwx]; clear hwx wx)
    | (go_at_call_of 81 v3; go_must (refine (kx v3 _ HR3.out).mono ?_); rintro e wx ⟨rfl, hwx⟩; rw [hwx]; clear hwx wx)
    | (go_at_call_of 80 v2; go_must (refine (ks v2 _ (HR2.out.setU _ _ _ _ g4 (by intro x h; cases h))).mono ?_); rintro e w3 ⟨v3, rfl, hr3, hb3⟩; have R10 : w3.heap[w.heap.size + 1]? = some (.cells #[.int .i64 1, .bool neg, .int .i64 hx, .int .u64 0, .int .u64 lo, .bool rest] 24 (0, 0)) := (hb3.block (w.heap.size + 1) (by simpa using z2)).trans ((rowset HR10.out 4 _).trans (by simp only [List.setIfInBounds_toArray, List.set_cons_zero, List.set_cons_succ])); have R8 := (hb3.block w.heap.size (by simp; omega)).trans ((heap_setCell_other _ _ _ _ (by simp)).trans HR8.out); have HB3 : Hid (Below w.heap.size w w3) := cthen (cset HB2.out (by omega) _ _) hb3; have HR3 : Hid (Row w3 v3 (dig K2)) := hr3; have z3 : w.heap.size + 1 < w3.heap.size := (by have := hb3.size; simp at this; omega); have p0 := rowcell R10 0; have p1 := rowcell R10 1; have p2 := rowcell R10 2; have p3 := rowcell R10 3; have p4 := rowcell R10 4; have p5 := rowcell R10 5; have pf := rowfree R10; simp only [List.getElem?_toArray, List.getElem?_cons_zero, List.getElem?_cons_succ] at p0 p1 p2 p3 p4 p5; have q0 := rowcell R8 0; have q1 := rowcell R8 1; have q2 := rowcell R8 2; have q3 := rowcell R8 3; have q4 := rowcell R8 4; have q5 := rowcell R8 5; have qf := rowfree R8; simp only [List.getElem?_toArray, List.getElem?_cons_zero, List.getElem?_cons_succ] at q0 q1 q2 q3 q4 q5; clear hr3 hb3)
    | (go_at_call 45; go_must (refine (k3 _ (HR.out.below (cmore (cmore (Below.refl _ _) _) _))).mono ?_); rintro e w2 ⟨v2, rfl, hr2, hb2⟩; have R10 := (hb2.block (w.heap.size + 1) (by simp)).trans (rownew' _ _ _ _ (by simp)); have R8 := (hb2.block w.heap.size (by simp; omega)).trans ((Below.heap_alloc _ _ _ (by simp)).trans (rownew' _ _ _ _ (by simp))); have HB2 : Hid (Below w.heap.size w w2) := cthen (cmore (cmore (Below.refl _ _) _) _) hb2; have HR2 : Hid (Row w2 v2 (dig K)) := hr2; have z2 : w.heap.size + 1 < w2.heap.size := (by have := hb2.size; simp at this; omega); have g0 := rowcell R10 0; have g1 := rowcell R10 1; have g2 := rowcell R10 2; have g3 := rowcell R10 3; have g4 := rowcell R10 4; have g5 := rowcell R10 5; have gf := rowfree R10; simp only [List.getElem?_toArray, List.getElem?_cons_zero, List.getElem?_cons_succ] at g0 g1 g2 g3 g4 g5; have h0 := rowcell R8 0; have h1 := rowcell R8 1; have h2 := rowcell R8 2; have h3 := rowcell R8 3; have h4 := rowcell R8 4; have h5 := rowcell R8 5; have hf := rowfree R8; simp only [List.getElem?_toArray, List.getElem?_cons_zero, List.getElem?_cons_succ] at h0 h1 h2 h3 h4 h5; have HR10 : Hid _ := R10; have HR8 : Hid _ := R8; clear hr2 hb2 R10 R8)
    | (go_at_call 81; go_must (refine (kw v2 _ HR2.out).mono ?_); rintro e wx ⟨rfl, hwx⟩; rw [hwx]; clear hwx wx))
  refine bodyPost_ret (v := .agg #[.int .i64 1, .bool neg, .int .i64 hx, .int .u64 hi, .int .u64 lo, .bool rest]) (by simp [results, Try.results46, go_sem, q0, q1, q2, q3, q4, q5, qf]) rfl (hQ.out _ _ ⟨by simp, ?_⟩)
  exact cset6 (cset HB3.out (by omega) _ _) (Nat.le_refl _)
theorem exactly7_mid (neg : Bool) (v : Value) (M : Nat) (exp : Int) (rest : Bool) (h0 : M ≠ 0) (hb : blen M ≤ 1099511627776) (he : -1152921504606846976 ≤ exp ∧ exp ≤ 1152921504606846976) (hc : blen M = 128) (w : World) (hr : Row w v (dig M)) :
    Calls Try.prog 46 #[.bool neg, v, .int .i64 exp, .bool rest] w fun e w' => e = .returned (exactV neg M exp rest) ∧ Below w.heap.size w w' := by
  have hS := dlen_of_blen hb
  obtain ⟨hK1, hK2⟩ := normN_mant h0
  have hSK := dlen_mant hK2
  have hp : 1 ≤ blen M := by rw [blen_pos h0]; omega
  have hv : exactV neg M exp rest = exV 1 neg (heldX (exp + blen M - 1)) (normN M / 2 ^ 64 % 2 ^ 64) (normN M % 2 ^ 64) (rest || lostN M) := by unfold exactV; rw [if_neg h0]
  rw [hv]
  have k1 := fun w hw => nbits_anyq v M hS w hw
  have k2 := held7_any (exp + blen M - 1)
  have hhb := heldX_bounds (exp + blen M - 1)
  have kw := fun v w hw => nword_anyq v (normN M) w hw
  have ks := fun v w hw => nshr_anyq v (normN M) 64 (by decide) hSK w hw
  have kx := fun v w hw => nword_anyq v (normN M / 2 ^ 64) w hw
  have hn : normN M = M := by unfold normN; rw [if_neg (by omega), hc]; simp
  have hl : (rest || lostN M) = rest := by unfold lostN; rw [decide_eq_false (by omega)]; simp
  rw [hl]
  have g1 : decide (((blen M : Nat) : Int) < 128) = false := decide_eq_false (by omega)
  have g2 : decide ((128 : Int) < ((blen M : Nat) : Int)) = false := decide_eq_false (by omega)
  have hb1 : 1 ≤ ((blen M : Nat) : Int) ∧ ((blen M : Nat) : Int) ≤ 1099511627776 := by omega
  have g0 : (((blen M : Nat) : Int) == 0) = false := beq_eq_false_iff_ne.2 (by omega)
  clear hv hp hK1 hK2 hSK
  clear hl
  generalize heldX (exp + blen M - 1) = hx at *
  have HR : Hid (Row w v (dig M)) := hr
  have HR' : Hid (Row w v (dig (normN M))) := by rw [hn]; exact hr
  clear hn
  generalize normN M % 2 ^ 64 = lo at *
  generalize normN M / 2 ^ 64 % 2 ^ 64 = hi at *
  generalize normN M / 2 ^ 64 = K2 at *
  generalize normN M = K at *
  clear hr hb hc h0
  generalize ((blen M : Nat) : Int) = n at *
  refine cps fun Q hQ => ?_
  unfold exV at *
  go_enter Try.func46, Try.ntmps46
  go_wp2_with (first
    | (go_at_call 77; go_must (refine (k1 _ (HR.out.below (cmore (Below.refl _ _) _))).mono ?_); rintro e wx ⟨rfl, hwx⟩; rw [hwx]; clear hwx wx)
    | (go_at_call 78; go_must (refine (k2 _).mono ?_); rintro e wx ⟨rfl, hwx⟩; rw [hwx]; clear hwx wx)
    | (go_at_call_of 81 v3; go_must (refine (kx v3 _ HR3.out).mono ?_); rintro e wx ⟨rfl, hwx⟩; rw [hwx]; clear hwx wx)
    | (go_at_call 81; go_must (refine (kw v _ (HR'.out.below (cmore (cmore (Below.refl _ _) _) _))).mono ?_); rintro e wx ⟨rfl, hwx⟩; rw [hwx]; clear hwx wx)
    | (go_at_call 80; go_must (refine (ks v _ (HR'.out.below (cmore (cmore (Below.refl _ _) _) _))).mono ?_); rintro e w3 ⟨v3, rfl, hr3, hb3⟩; have R10 := (hb3.block (w.heap.size + 1) (by simp)).trans (rownew' _ _ _ _ (by simp)); have R8 := (hb3.block w.heap.size (by simp; omega)).trans ((Below.heap_alloc _ _ _ (by simp)).trans (rownew' _ _ _ _ (by simp))); have HB3 : Hid (Below w.heap.size w w3) := cthen (cmore (cmore (Below.refl _ _) _) _) hb3; have HR3 : Hid (Row w3 v3 (dig K2)) := hr3; have z3 : w.heap.size + 1 < w3.heap.size := (by have := hb3.size; simp at this; omega); have g0 := rowcell R10 0; have g1 := rowcell R10 1; have g2 := rowcell R10 2; have g3 := rowcell R10 3; have g4 := rowcell R10 4; have g5 := rowcell R10 5; have gf := rowfree R10; simp only [List.getElem?_toArray, List.getElem?_cons_zero, List.getElem?_cons_succ] at g0 g1 g2 g3 g4 g5; have h0 := rowcell R8 0; have h1 := rowcell R8 1; have h2 := rowcell R8 2; have h3 := rowcell R8 3; have h4 := rowcell R8 4; have h5 := rowcell R8 5; have hf := rowfree R8; simp only [List.getElem?_toArray, List.getElem?_cons_zero, List.getElem?_cons_succ] at h0 h1 h2 h3 h4 h5; clear hr3 hb3))
  refine bodyPost_ret (v := .agg #[.int .i64 1, .bool neg, .int .i64 hx, .int .u64 hi, .int .u64 lo, .bool rest]) (by simp [results, Try.results46, go_sem, h0, h1, h2, h3, h4, h5, hf]) rfl (hQ.out _ _ ⟨by simp, ?_⟩)
  exact cset6 (cset HB3.out (by omega) _ _) (Nat.le_refl _)
theorem exactly7_hi (neg : Bool) (v : Value) (M : Nat) (exp : Int) (rest : Bool) (h0 : M ≠ 0) (hb : blen M ≤ 1099511627776) (he : -1152921504606846976 ≤ exp ∧ exp ≤ 1152921504606846976) (hc : 128 < blen M) (w : World) (hr : Row w v (dig M)) :
    Calls Try.prog 46 #[.bool neg, v, .int .i64 exp, .bool rest] w fun e w' => e = .returned (exactV neg M exp rest) ∧ Below w.heap.size w w' := by
  have hS := dlen_of_blen hb
  obtain ⟨hK1, hK2⟩ := normN_mant h0
  have hSK := dlen_mant hK2
  have hp : 1 ≤ blen M := by rw [blen_pos h0]; omega
  have hv : exactV neg M exp rest = exV 1 neg (heldX (exp + blen M - 1)) (normN M / 2 ^ 64 % 2 ^ 64) (normN M % 2 ^ 64) (rest || lostN M) := by unfold exactV; rw [if_neg h0]
  rw [hv]
  have k1 := fun w hw => nbits_anyq v M hS w hw
  have k2 := held7_any (exp + blen M - 1)
  have hhb := heldX_bounds (exp + blen M - 1)
  have kw := fun v w hw => nword_anyq v (normN M) w hw
  have ks := fun v w hw => nshr_anyq v (normN M) 64 (by decide) hSK w hw
  have kx := fun v w hw => nword_anyq v (normN M / 2 ^ 64) w hw
  have k3 := fun w hw => nshr_anyq v M (blen M - 128) (by omega) hS w hw
  rw [show M / 2 ^ (blen M - 128) = normN M by unfold normN; rw [if_neg (by omega)]] at k3
  have k4 := fun w hw => nlow_anyq v M (blen M - 128) (by omega) hS w hw
  rw [show decide (M % 2 ^ (blen M - 128) ≠ 0) = lostN M by unfold lostN; rw [decide_eq_true hc]; simp] at k4
  have hd : ((blen M : Nat) : Int) - 128 = ((blen M - 128 : Nat) : Int) := by omega
  obtain ⟨d, hdd⟩ : ∃ d, d = blen M - 128 := ⟨_, rfl⟩
  rw [← hdd] at k3 k4 hd
  have g1 : decide (((blen M : Nat) : Int) < 128) = false := decide_eq_false (by omega)
  have g2 : decide ((128 : Int) < ((blen M : Nat) : Int)) = true := decide_eq_true (by omega)
  have hb1 : 1 ≤ ((blen M : Nat) : Int) ∧ ((blen M : Nat) : Int) ≤ 1099511627776 := by omega
  have g0 : (((blen M : Nat) : Int) == 0) = false := beq_eq_false_iff_ne.2 (by omega)
  clear hv hp hK1 hK2 hSK
  generalize lostN M = lost at *
  generalize heldX (exp + blen M - 1) = hx at *
  have HR : Hid (Row w v (dig M)) := hr
  generalize normN M % 2 ^ 64 = lo at *
  generalize normN M / 2 ^ 64 % 2 ^ 64 = hi at *
  generalize normN M / 2 ^ 64 = K2 at *
  generalize normN M = K at *
  clear hr hb hc h0
  clear hdd
  generalize ((blen M : Nat) : Int) = n at *
  refine cps fun Q hQ => ?_
  unfold exV at *
  cases rest
  · skip
    go_enter Try.func46, Try.ntmps46
    go_wp2_with (first
      | (go_at_call 77; go_must (refine (k1 _ (HR.out.below (cmore (Below.refl _ _) _))).mono ?_); rintro e wx ⟨rfl, hwx⟩; rw [hwx]; clear hwx wx)
      | (go_at_call 78; go_must (refine (k2 _).mono ?_); rintro e wx ⟨rfl, hwx⟩; rw [hwx]; clear hwx wx)
      | (go_at_call_of 81 v3; go_must (refine (kx v3 _ HR3.out).mono ?_); rintro e wx ⟨rfl, hwx⟩; rw [hwx]; clear hwx wx)
      | (go_at_call 79; go_must (refine (k4 _ (HR.out.below (cmore (cmore (Below.refl _ _) _) _))).mono ?_); rintro e wx ⟨rfl, hwx⟩; rw [hwx]; clear hwx wx)
      | (go_at_call_of 80 v2; go_must (refine (ks v2 _ (HR2.out.setU _ _ _ _ g4 (by intro x h; cases h))).mono ?_); rintro e w3 ⟨v3, rfl, hr3, hb3⟩; have R10 : w3.heap[w.heap.size + 1]? = some (.cells #[.int .i64 1, .bool neg, .int .i64 hx, .int .u64 0, .int .u64 lo, .bool lost] 24 (0, 0)) := (hb3.block (w.heap.size + 1) (by simpa using z2)).trans ((rowset HR10.out 4 _).trans (by simp only [List.setIfInBounds_toArray, List.set_cons_zero, List.set_cons_succ])); have R8 := (hb3.block w.heap.size (by simp; omega)).trans ((heap_setCell_other _ _ _ _ (by simp)).trans HR8.out); have HB3 : Hid (Below w.heap.size w w3) := cthen (cset HB2.out (by omega) _ _) hb3; have HR3 : Hid (Row w3 v3 (dig K2)) := hr3; have z3 : w.heap.size + 1 < w3.heap.size := (by have := hb3.size; simp at this; omega); have p0 := rowcell R10 0; have p1 := rowcell R10 1; have p2 := rowcell R10 2; have p3 := rowcell R10 3; have p4 := rowcell R10 4; have p5 := rowcell R10 5; have pf := rowfree R10; simp only [List.getElem?_toArray, List.getElem?_cons_zero, List.getElem?_cons_succ] at p0 p1 p2 p3 p4 p5; have q0 := rowcell R8 0; have q1 := rowcell R8 1; have q2 := rowcell R8 2; have q3 := rowcell R8 3; have q4 := rowcell R8 4; have q5 := rowcell R8 5; have qf := rowfree R8; simp only [List.getElem?_toArray, List.getElem?_cons_zero, List.getElem?_cons_succ] at q0 q1 q2 q3 q4 q5; clear hr3 hb3)
      | (go_at_call 80; go_must (refine (k3 _ (HR.out.below (cmore (cmore (Below.refl _ _) _) _))).mono ?_); rintro e w2 ⟨v2, rfl, hr2, hb2⟩; have R10 := (hb2.block (w.heap.size + 1) (by simp)).trans (rownew' _ _ _ _ (by simp)); have R8 := (hb2.block w.heap.size (by simp; omega)).trans ((Below.heap_alloc _ _ _ (by simp)).trans (rownew' _ _ _ _ (by simp))); have HB2 : Hid (Below w.heap.size w w2) := cthen (cmore (cmore (Below.refl _ _) _) _) hb2; have HR2 : Hid (Row w2 v2 (dig K)) := hr2; have z2 : w.heap.size + 1 < w2.heap.size := (by have := hb2.size; simp at this; omega); have g0 := rowcell R10 0; have g1 := rowcell R10 1; have g2 := rowcell R10 2; have g3 := rowcell R10 3; have g4 := rowcell R10 4; have g5 := rowcell R10 5; have gf := rowfree R10; simp only [List.getElem?_toArray, List.getElem?_cons_zero, List.getElem?_cons_succ] at g0 g1 g2 g3 g4 g5; have h0 := rowcell R8 0; have h1 := rowcell R8 1; have h2 := rowcell R8 2; have h3 := rowcell R8 3; have h4 := rowcell R8 4; have h5 := rowcell R8 5; have hf := rowfree R8; simp only [List.getElem?_toArray, List.getElem?_cons_zero, List.getElem?_cons_succ] at h0 h1 h2 h3 h4 h5; have HR10 : Hid _ := R10; have HR8 : Hid _ := R8; clear hr2 hb2 R10 R8)
      | (go_at_call 81; go_must (refine (kw v2 _ HR2.out).mono ?_); rintro e wx ⟨rfl, hwx⟩; rw [hwx]; clear hwx wx))
    refine bodyPost_ret (v := .agg #[.int .i64 1, .bool neg, .int .i64 hx, .int .u64 hi, .int .u64 lo, .bool lost]) (by simp [results, Try.results46, go_sem, q0, q1, q2, q3, q4, q5, qf]) rfl (hQ.out _ _ ⟨by simp, ?_⟩)
    exact cset6 (cset HB3.out (by omega) _ _) (Nat.le_refl _)
  · skip
    go_enter Try.func46, Try.ntmps46
    go_wp2_with (first
      | (go_at_call 77; go_must (refine (k1 _ (HR.out.below (cmore (Below.refl _ _) _))).mono ?_); rintro e wx ⟨rfl, hwx⟩; rw [hwx]; clear hwx wx)
      | (go_at_call 78; go_must (refine (k2 _).mono ?_); rintro e wx ⟨rfl, hwx⟩; rw [hwx]; clear hwx wx)
      | (go_at_call_of 81 v3; go_must (refine (kx v3 _ HR3.out).mono ?_); rintro e wx ⟨rfl, hwx⟩; rw [hwx]; clear hwx wx)
      | (go_at_call 79; go_must (refine (k4 _ (HR.out.below (cmore (cmore (Below.refl _ _) _) _))).mono ?_); rintro e wx ⟨rfl, hwx⟩; rw [hwx]; clear hwx wx)
      | (go_at_call_of 80 v2; go_must (refine (ks v2 _ (HR2.out.setU _ _ _ _ g4 (by intro x h; cases h))).mono ?_); rintro e w3 ⟨v3, rfl, hr3, hb3⟩; have R10 : w3.heap[w.heap.size + 1]? = some (.cells #[.int .i64 1, .bool neg, .int .i64 hx, .int .u64 0, .int .u64 lo, .bool true] 24 (0, 0)) := (hb3.block (w.heap.size + 1) (by simpa using z2)).trans ((rowset HR10.out 4 _).trans (by simp only [List.setIfInBounds_toArray, List.set_cons_zero, List.set_cons_succ])); have R8 := (hb3.block w.heap.size (by simp; omega)).trans ((heap_setCell_other _ _ _ _ (by simp)).trans HR8.out); have HB3 : Hid (Below w.heap.size w w3) := cthen (cset HB2.out (by omega) _ _) hb3; have HR3 : Hid (Row w3 v3 (dig K2)) := hr3; have z3 : w.heap.size + 1 < w3.heap.size := (by have := hb3.size; simp at this; omega); have p0 := rowcell R10 0; have p1 := rowcell R10 1; have p2 := rowcell R10 2; have p3 := rowcell R10 3; have p4 := rowcell R10 4; have p5 := rowcell R10 5; have pf := rowfree R10; simp only [List.getElem?_toArray, List.getElem?_cons_zero, List.getElem?_cons_succ] at p0 p1 p2 p3 p4 p5; have q0 := rowcell R8 0; have q1 := rowcell R8 1; have q2 := rowcell R8 2; have q3 := rowcell R8 3; have q4 := rowcell R8 4; have q5 := rowcell R8 5; have qf := rowfree R8; simp only [List.getElem?_toArray, List.getElem?_cons_zero, List.getElem?_cons_succ] at q0 q1 q2 q3 q4 q5; clear hr3 hb3)
      | (go_at_call 80; go_must (refine (k3 _ (HR.out.below (cmore (cmore (Below.refl _ _) _) _))).mono ?_); rintro e w2 ⟨v2, rfl, hr2, hb2⟩; have R10 := (hb2.block (w.heap.size + 1) (by simp)).trans (rownew' _ _ _ _ (by simp)); have R8 := (hb2.block w.heap.size (by simp; omega)).trans ((Below.heap_alloc _ _ _ (by simp)).trans (rownew' _ _ _ _ (by simp))); have HB2 : Hid (Below w.heap.size w w2) := cthen (cmore (cmore (Below.refl _ _) _) _) hb2; have HR2 : Hid (Row w2 v2 (dig K)) := hr2; have z2 : w.heap.size + 1 < w2.heap.size := (by have := hb2.size; simp at this; omega); have g0 := rowcell R10 0; have g1 := rowcell R10 1; have g2 := rowcell R10 2; have g3 := rowcell R10 3; have g4 := rowcell R10 4; have g5 := rowcell R10 5; have gf := rowfree R10; simp only [List.getElem?_toArray, List.getElem?_cons_zero, List.getElem?_cons_succ] at g0 g1 g2 g3 g4 g5; have h0 := rowcell R8 0; have h1 := rowcell R8 1; have h2 := rowcell R8 2; have h3 := rowcell R8 3; have h4 := rowcell R8 4; have h5 := rowcell R8 5; have hf := rowfree R8; simp only [List.getElem?_toArray, List.getElem?_cons_zero, List.getElem?_cons_succ] at h0 h1 h2 h3 h4 h5; have HR10 : Hid _ := R10; have HR8 : Hid _ := R8; clear hr2 hb2 R10 R8)
      | (go_at_call 81; go_must (refine (kw v2 _ HR2.out).mono ?_); rintro e wx ⟨rfl, hwx⟩; rw [hwx]; clear hwx wx))
    refine bodyPost_ret (v := .agg #[.int .i64 1, .bool neg, .int .i64 hx, .int .u64 hi, .int .u64 lo, .bool true]) (by simp [results, Try.results46, go_sem, q0, q1, q2, q3, q4, q5, qf]) rfl (hQ.out _ _ ⟨by simp, ?_⟩)
    exact cset6 (cset HB3.out (by omega) _ _) (Nat.le_refl _)
end Go.Proofs.Ytheliihkkoohnaa

namespace Go.Proofs.Ytheliihkkoohnaa
open Go.ChangeShapes Go.WideShapes Go.ChangeAt Go.RowKit
set_option linter.unusedVariables false
set_option linter.unusedSimpArgs false
set_option maxRecDepth 100000

theorem exactly7_zero (neg : Bool) (v : Value) (exp : Int) (rest : Bool) (w : World) (hr : Row w v (dig 0)) :
    Calls Try.prog 46 #[.bool neg, v, .int .i64 exp, .bool rest] w fun e w' => e = .returned (exV 0 false 0 0 0 false) ∧ Below w.heap.size w w' := by
  have k1 := fun w hw => nbits_anyq v 0 (by rw [dlen_zero]; decide) w hw
  rw [blen_zero, show ((0 : Nat) : Int) = 0 from rfl] at k1
  have HR : Hid (Row w v (dig 0)) := hr
  clear hr
  refine cps fun Q hQ => ?_
  unfold exV at *
  go_enter Try.func46, Try.ntmps46
  go_wp2_with (first
    | (go_at_call 77; go_must (refine (k1 _ (HR.out.below (cmore (Below.refl _ _) _))).mono ?_); rintro e wx ⟨rfl, hwx⟩; rw [hwx]; clear hwx wx))
  refine bodyPost_ret (v := .agg #[.int .i64 0, .bool false, .int .i64 0, .int .u64 0, .int .u64 0, .bool false]) (by simp [results, Try.results46, go_sem]) rfl (hQ.out _ _ ⟨rfl, ?_⟩)
  exact cmore (Below.refl _ _) _
theorem exactly7_any (neg : Bool) (v : Value) (M : Nat) (exp : Int) (rest : Bool) (hb : blen M ≤ 1099511627776) (he : -1152921504606846976 ≤ exp ∧ exp ≤ 1152921504606846976) (w : World) (hr : Row w v (dig M)) :
    Calls Try.prog 46 #[.bool neg, v, .int .i64 exp, .bool rest] w fun e w' => e = .returned (exactV neg M exp rest) ∧ Below w.heap.size w w' := by
  by_cases h0 : M = 0
  · subst h0
    have := exactly7_zero neg v exp rest w hr
    unfold exactV
    rwa [if_pos rfl]
  · rcases Nat.lt_trichotomy (blen M) 128 with h | h | h
    · exact exactly7_lo neg v M exp rest h0 hb he h w hr
    · exact exactly7_mid neg v M exp rest h0 hb he h w hr
    · exact exactly7_hi neg v M exp rest h0 hb he h w hr
theorem exactV_form (neg : Bool) (M : Nat) (exp : Int) (rest : Bool) : ∃ k b s h l r, exactV neg M exp rest = exV k b s h l r := by
  unfold exactV
  split
  · exact ⟨_, _, _, _, _, _, rfl⟩
  · exact ⟨_, _, _, _, _, _, rfl⟩
/-! ### Makes -/
def farE (exp : Int) : Int := if exp < -1125899906842624 then -1125899906842624 else if exp > 1125899906842624 then 1125899906842624 else exp
theorem exactV_far (neg : Bool) (M : Nat) (exp : Int) (rest : Bool) (hM : M < 2 ^ 128) : exactV neg M (farE exp) rest = exactV neg M exp rest := by
  by_cases h0 : M = 0
  · unfold exactV; rw [if_pos h0, if_pos h0]
  · have h1 : blen M ≤ 128 := blen_le.2 hM
    unfold exactV
    rw [if_neg h0, if_neg h0]
    congr 1
    unfold heldX farE
    have hb2 : 0 ≤ ((blen M : Nat) : Int) ∧ ((blen M : Nat) : Int) ≤ 128 := by omega
    generalize ((blen M : Nat) : Int) = b at *
    repeat' split
    all_goals omega
theorem manX_lt {hi lo : Nat} (hh : hi < 2 ^ 64) (hl : lo < 2 ^ 64) : manX hi lo < 2 ^ 128 := by unfold manX; omega
end Go.Proofs.Ytheliihkkoohnaa

namespace Go.Proofs.Ytheliihkkoohnaa
open Go.ChangeShapes Go.WideShapes Go.ChangeAt Go.RowKit
set_option linter.unusedVariables false
set_option maxRecDepth 100000

/-- what the lowest k digits are -/
def lo (a k : Nat) : Nat := val (low a k)
theorem lo_zero (a : Nat) : lo a 0 = 0 := rfl
theorem lo_succ (a k : Nat) : lo a (k + 1) = lo a k + 16777216 ^ k * (top a k % 16777216) := by
  unfold lo; rw [low_snoc, val_append, low_length]; simp [val]
theorem lo_all (a : Nat) : lo a (dlen a) = a := by unfold lo; rw [low_dlen, val_dig]
theorem val_set (l : List Nat) (j d : Nat) (h : j < l.length) : val (l.set j d) + 16777216 ^ j * l.getD j 0 = val l + 16777216 ^ j * d := by
  induction l generalizing j with
  | nil => simp at h
  | cons x l ih =>
    cases j with
    | zero => simp [val_cons]; omega
    | succ j =>
      have := ih j (by simpa using h)
      simp only [List.set_cons_succ, val_cons, List.getD_cons_succ, Nat.pow_succ]
      have e1 : 16777216 ^ j * 16777216 * l.getD j 0 = 16777216 * (16777216 ^ j * l.getD j 0) := by rw [Nat.mul_comm (16777216 ^ j) 16777216, Nat.mul_assoc]
      have e2 : 16777216 ^ j * 16777216 * d = 16777216 * (16777216 ^ j * d) := by rw [Nat.mul_comm (16777216 ^ j) 16777216, Nat.mul_assoc]
      rw [e1, e2]; omega
theorem val_zeros (n : Nat) : val (List.replicate n 0) = 0 := by
  induction n with
  | zero => rfl
  | succ n ih => rw [List.replicate_succ, val_cons, ih]
theorem getD_set (l : List Nat) (j d i : Nat) (h : j < l.length) : (l.set j d).getD i 0 = if j = i then d else l.getD i 0 := by
  rw [List.getD_eq_getElem?_getD, List.getElem?_set]
  by_cases e : j = i
  · subst e; simp [h]
  · simp [e]
theorem mul_step {V V' O c t P p R : Nat} (h1 : V + P * c = R) (h2 : V' + P * O = V + P * (t % 16777216)) (ht : t = O + p + c) : V' + P * 16777216 * (t / 16777216) = R + P * p := by
  have e1 : P * t = P * 16777216 * (t / 16777216) + P * (t % 16777216) := by
    conv => lhs; rw [← Nat.div_add_mod t 16777216]
    rw [Nat.mul_add, Nat.mul_assoc]
  have e2 : P * t = P * O + P * p + P * c := by rw [ht, Nat.mul_add, Nat.mul_add]
  omega
/-- the row of a product under way -/
structure MulAt (a b i k c : Nat) (O : List Nat) : Prop where
  len : O.length = dlen a + dlen b
  digs : ∀ d ∈ O, d < 16777216
  sum : val O + 16777216 ^ (i + k) * c = lo a i * b + 16777216 ^ i * ((top a i % 16777216) * lo b k)
  up : ∀ j, i + dlen b ≤ j → O.getD j 0 = 0
theorem MulAt.start (a b : Nat) : MulAt a b 0 0 0 (List.replicate (dlen a + dlen b) 0) :=
  ⟨by simp, by simp, by rw [val_zeros, lo_zero, lo_zero]; simp, fun j _ => by rw [List.getD_eq_getElem?_getD, List.getElem?_replicate]; split <;> rfl⟩
theorem MulAt.step {a b i k c x t : Nat} {O : List Nat} (h : MulAt a b i k c O) (hi : i < dlen a) (hk : k < dlen b) (hx : x = O.getD (i + k) 0) (ht : t = x + (top a i % 16777216) * (top b k % 16777216) + c) :
    MulAt a b i (k + 1) (t / 16777216) (O.set (i + k) (t % 16777216)) := by
  have hl := h.len
  refine ⟨by simp [hl], ?_, ?_, ?_⟩
  · intro d hd
    rcases List.mem_or_eq_of_mem_set hd with h1 | h1
    · exact h.digs d h1
    · omega
  · have h2 := val_set O (i + k) (t % 16777216) (by omega)
    rw [← hx] at h2
    have h3 := mul_step h.sum h2 ht
    rw [show i + (k + 1) = (i + k) + 1 by omega, Nat.pow_succ, h3, lo_succ, Nat.mul_add, Nat.mul_add, Nat.add_assoc, Nat.pow_add, Nat.mul_assoc, Nat.mul_left_comm (top a i % 16777216)]
  · intro j hj
    rw [getD_set _ _ _ _ (by omega), if_neg (by omega)]
    exact h.up j hj
theorem MulAt.next {a b i c : Nat} {O : List Nat} (h : MulAt a b i (dlen b) c O) (hi : i < dlen a) (hc : c < 16777216) : MulAt a b (i + 1) 0 0 (O.set (i + dlen b) c) := by
  have hl := h.len
  refine ⟨by simp [hl], ?_, ?_, ?_⟩
  · intro d hd
    rcases List.mem_or_eq_of_mem_set hd with h1 | h1
    · exact h.digs d h1
    · omega
  · have h2 := val_set O (i + dlen b) c (by omega)
    rw [h.up _ (Nat.le_refl _), Nat.mul_zero, Nat.add_zero, h.sum, lo_all] at h2
    rw [h2, lo_zero, lo_succ, Nat.mul_zero, Nat.mul_zero, Nat.mul_zero, Nat.add_zero, Nat.add_zero, Nat.add_mul, Nat.mul_assoc]
  · intro j hj
    rw [getD_set _ _ _ _ (by omega), if_neg (by omega)]
    exact h.up j (by omega)
theorem MulAt.done {a b : Nat} {O : List Nat} (h : MulAt a b (dlen a) 0 0 O) : ∃ z, O = dig (a * b) ++ List.replicate z 0 := by
  have hs := h.sum
  rw [lo_zero, lo_all, Nat.mul_zero, Nat.mul_zero, Nat.mul_zero, Nat.add_zero, Nat.add_zero] at hs
  have hv := val_low O h.digs
  have hlt := val_lt O h.digs
  rw [hs] at hv hlt
  exact ⟨_, by rw [← low_ge (dlen_le_of_lt hlt), hv]⟩

end Go.Proofs.Ytheliihkkoohnaa

namespace Go.Proofs.Ytheliihkkoohnaa
set_option maxRecDepth 100000
open Go.ChangeShapes Go.WideShapes Go.ChangeAt Go.RowKit
set_option linter.unusedVariables false

theorem Row.alloc {w : World} {v : Value} {l : List Nat} (h : Row w v l) (o : Obj) : Row (w.alloc o) v l := h.below (bmore (Below.refl _ _) _)
theorem dlen_small {n : Nat} (h : n < 22300745198530623141535718272648361505980416) : dlen n ≤ 6 := dlen_le_of_lt (by rw [show (16777216 : Nat) ^ 6 = 22300745198530623141535718272648361505980416 by decide]; exact h)

/-- a one-digit row laid out -/
theorem rof_any {n h l : Nat} (hn : Tw n h l) (w : World) :
    Calls Try.prog 44 #[.agg #[.int .u64 h, .int .u64 l]] w fun e w' => ∃ v, e = .returned v ∧ Row w' v (dig n) ∧ Below w.heap.size w w' := by
  refine cps fun Q hQ => ?_
  obtain ⟨en, hh, hl⟩ := hn
  have d1 : dlen h ≤ 1099511627776 := Nat.le_trans (dlen_small (by omega)) (by decide)
  have d2 : dlen (h * 2 ^ 64 + l) ≤ 1099511627776 := Nat.le_trans (dlen_small (by omega)) (by decide)
  have en2 : n = h * 2 ^ 64 + l := by omega
  have HN : Hid (n = h * 2 ^ 64 + l) := en2
  rw [en2] at hQ
  clear en en2
  have k1 := of_any h (by omega)
  have k2 := of_any l (by omega)
  have k3 := fun v w hr => nshl_any v h 64 (by decide) d1 w hr
  have k4 := fun va vb w ha hb => nadd_any va vb (h * 2 ^ 64) l d2 w ha hb
  generalize h * 2 ^ 64 = hs at *
  clear d1 d2
  go_enter Try.func44, Try.ntmps44
  go_wp2_with (first
    | (go_at_call_of 73 h; refine (k1 _).mono ?_; rintro e w1 ⟨v1, rfl, hr1, hb1⟩)
    | (go_at_call 72; refine (k3 _ _ hr1).mono ?_; rintro e w2 ⟨v2, rfl, hr2, hb2⟩; have hb12 := bthen hb1 hb2; obtain ⟨hc, hf⟩ := bcell hb12; have hz : w.heap.size < w2.heap.size := by have := hb12.size; simp at this; omega)
    | (go_at_call_of 73 l; refine (k2 _).mono ?_; rintro e w3 ⟨v3, rfl, hr3, hb3⟩)
    | (go_at_call 74; refine (k4 _ _ _ (hr2.below hb3) hr3).mono ?_; rintro e w4 ⟨v4, rfl, hr4, hb4⟩))
  exact hQ.out _ _ ⟨_, rfl, hr4, bthen (bthen (bthen (bmore (Below.refl _ _) _) hb12) hb3) hb4⟩

theorem cmpN_ge {x y : Nat} : decide (y ≤ x) = decide (0 ≤ cmpN x y) := by
  refine decide_eq_decide.2 ?_
  rcases Nat.lt_trichotomy x y with h | h | h
  · rw [cmpN_lt h]; omega
  · subst h; rw [cmpN_eq]; omega
  · rw [cmpN_gt h]; omega
theorem cmpN_less {x y : Nat} : decide (x < y) = decide (cmpN x y < 0) := by
  refine decide_eq_decide.2 ?_
  rcases Nat.lt_trichotomy x y with h | h | h
  · rw [cmpN_lt h]; omega
  · subst h; rw [cmpN_eq]; omega
  · rw [cmpN_gt h]; omega
theorem dlen_ok {n : Nat} (h : n < 22300745198530623141535718272648361505980416) : dlen n ≤ 1099511627776 := Nat.le_trans (dlen_small h) (by decide)

end Go.Proofs.Ytheliihkkoohnaa

namespace Go.Proofs.Ytheliihkkoohnaa
set_option maxRecDepth 100000
open Go.ChangeShapes Go.WideShapes Go.ChangeAt Go.RowKit
set_option linter.unusedVariables false

/-! ### shifts -/
theorem clamp_shl (a k : Nat) (ha : a < 340282366920938463463374607431768211456) : (a * 2 ^ k) % 340282366920938463463374607431768211456 = (a * 2 ^ (min k 128)) % 340282366920938463463374607431768211456 ∧
    decide (340282366920938463463374607431768211456 ≤ a * 2 ^ k) = decide (340282366920938463463374607431768211456 ≤ a * 2 ^ (min k 128)) := by
  have h128 : (340282366920938463463374607431768211456 : Nat) = 2 ^ 128 := by decide
  by_cases h : k ≤ 128
  · rw [Nat.min_eq_left h]; exact ⟨rfl, rfl⟩
  · rw [Nat.min_eq_right (by omega)]
    have e : 2 ^ k = 2 ^ (k - 128) * 2 ^ 128 := by rw [← Nat.pow_add]; congr 1; omega
    rw [e, ← Nat.mul_assoc, ← h128]
    have hp : 0 < 2 ^ (k - 128) := Nat.pow_pos (by decide)
    have hX : 0 < a * 2 ^ (k - 128) ↔ 0 < a := ⟨fun h => Nat.pos_of_mul_pos_right h, fun h => Nat.mul_pos h hp⟩
    generalize a * 2 ^ (k - 128) = X at *
    clear e hp
    refine ⟨by omega, decide_eq_decide.2 (by omega)⟩
theorem clamp_shr (a k : Nat) (ha : a < 340282366920938463463374607431768211456) : a / 2 ^ k = a / 2 ^ (min k 128) ∧ decide (a % 2 ^ k ≠ 0) = decide (a % 2 ^ (min k 128) ≠ 0) := by
  by_cases h : k ≤ 128
  · rw [Nat.min_eq_left h]; exact ⟨rfl, rfl⟩
  · rw [Nat.min_eq_right (by omega)]
    have h1 : a < 2 ^ 128 := ha
    have h2 : 2 ^ 128 ≤ 2 ^ k := Nat.pow_le_pow_right (by decide) (by omega)
    have h3 : a < 2 ^ k := by omega
    rw [Nat.div_eq_of_lt h1, Nat.div_eq_of_lt h3, Nat.mod_eq_of_lt h1, Nat.mod_eq_of_lt h3]
    exact ⟨rfl, rfl⟩
theorem shl_dlen (a k : Nat) (ha : a < 340282366920938463463374607431768211456) (hk : k ≤ 128) : dlen (a * 2 ^ k) ≤ 1099511627776 := by
  refine Nat.le_trans (dlen_le_of_lt (k := 12) ?_) (by decide)
  have h1 : 2 ^ k ≤ 2 ^ 128 := Nat.pow_le_pow_right (by decide) hk
  exact Nat.lt_of_lt_of_le (Nat.mul_lt_mul_of_lt_of_le ha h1 (Nat.pow_pos (by decide))) (by decide)

end Go.Proofs.Ytheliihkkoohnaa

namespace Go.Proofs.Ytheliihkkoohnaa
set_option maxRecDepth 100000
open Go.ChangeShapes Go.WideShapes Go.ChangeAt Go.RowKit
set_option linter.unusedVariables false

theorem tnorm_zero (w : World) :
    Calls Try.prog 71 #[.agg #[.int .u64 0, .int .u64 0]] w fun e w' => e = .returned (.tuple #[.agg #[.int .u64 0, .int .u64 0], .int .i64 0]) ∧ Below w.heap.size w w' := by
  refine cps fun Q hQ => ?_
  go_enter Try.func71, Try.ntmps71
  go_wp2
  refine bodyPost_ret (v := .tuple #[.agg #[.int .u64 0, .int .u64 0], .int .i64 0]) (by simp [results, Try.results71, go_sem]) rfl (hQ.out _ _ ⟨rfl, ?_⟩)
  exact bmore (bmore (Below.refl _ _) _) _
set_option maxHeartbeats 1000000 in
theorem tnorm_any {a h1 l1 h l k : Nat} (ha : Tw a h1 l1) (h0 : a ≠ 0) (hk : k + blen a = 128) (hs : Tw ((a * 2 ^ k) % 340282366920938463463374607431768211456) h l) (w : World) :
    Calls Try.prog 71 #[.agg #[.int .u64 h1, .int .u64 l1]] w fun e w' => e = .returned (.tuple #[.agg #[.int .u64 h, .int .u64 l], .int .i64 k]) ∧ Below w.heap.size w w' := by
  refine cps fun Q hQ => ?_
  have k1 := fun w => tlen_any ha w
  have k2 := fun w => up_any k (by omega) ha hs w
  have hne : (¬ (h1 : Int) = 0) ∨ (h1 = 0 ∧ ¬ (l1 : Int) = 0) := by have := ha.eq; omega
  clear ha hs h0
  generalize blen a = L at *
  have hkk : (128 : Int) - L = k := by omega
  have hL : L ≤ 128 := by omega
  clear hk
  rcases hne with hne | ⟨rfl, hne⟩
  all_goals
    go_enter Try.func71, Try.ntmps71
    go_wp2_with (first
      | (go_at_call 108; refine (k1 _).mono ?_; rintro e w1 ⟨rfl, hb1⟩; obtain ⟨hc1, hf1⟩ := bcell hb1)
      | (go_at_call 105; refine (k2 _).mono ?_; rintro e w2 ⟨rfl, hb2⟩; have hb12 := bthen hb1 hb2; obtain ⟨hc2, hf2⟩ := bcell hb12))
    refine bodyPost_ret (v := .tuple #[.agg #[.int .u64 h, .int .u64 l], .int .i64 k]) (by simp [results, Try.results71, go_sem, hc2]) rfl (hQ.out _ _ ⟨rfl, ?_⟩)
    exact bset (bset (bthen (bmore (bmore (Below.refl _ _) _) _) hb12) (by omega) _ _) (by omega) _ _
end Go.Proofs.Ytheliihkkoohnaa

namespace Go.Proofs.Ytheliihkkoohnaa
open Go.ChangeShapes Go.WideShapes Go.ChangeAt Go.RowKit
set_option linter.unusedVariables false
set_option linter.unusedSimpArgs false
set_option maxRecDepth 100000

/-! ### sound, row, compare, tail -/
def soundF (k : Int) (neg : Bool) (s : Int) (hi lo : Nat) (rest : Bool) (far : Int) : Bool :=
  if k = 0 ∨ k = 2 then decide (neg = false ∧ s = 0 ∧ hi = 0 ∧ lo = 0 ∧ rest = false) else decide (k = 1 ∧ 9223372036854775808 ≤ hi ∧ -far ≤ s ∧ s ≤ far)
theorem soundF_X (k : Int) (neg : Bool) (s : Int) (hi lo : Nat) (rest : Bool) : soundF k neg s hi lo rest 1099511627776 = soundX k neg s hi lo rest := rfl
theorem soundF_N (k : Int) (neg : Bool) (s : Int) (f : Nat) : soundF k neg s f 0 false 1073741824 = soundN k neg s f := by unfold soundF soundN; simp
set_option maxHeartbeats 1000000 in
theorem rsound_any (k : Int) (neg : Bool) (s : Int) (hi lo : Nat) (rest : Bool) (far : Int) (hh : hi < 2 ^ 64) (hf : 0 ≤ far ∧ far ≤ 1099511627776) (w : World) :
    Calls Try.prog 52 #[exV k neg s hi lo rest, .int .i64 far] w fun e w' => e = .returned (.bool (soundF k neg s hi lo rest far)) ∧ Below w.heap.size w w' := by
  have hsh : ((hi : Int) / 9223372036854775808 == 1) = decide (9223372036854775808 ≤ hi) := by
    by_cases h : 9223372036854775808 ≤ hi
    · rw [decide_eq_true h]; exact beq_iff_eq.2 (by omega)
    · rw [decide_eq_false h]; exact beq_eq_false_iff_ne.2 (by omega)
  have hwr : IntKind.i64.wrap (-far) = -far := wrapI (by omega)
  clear hf
  unfold exV soundF
  refine cps fun Q hQ => ?_
  by_cases h0 : k = 0
  · subst h0
    go_enter Try.func52, Try.ntmps52
    go_wp2
    all_goals exact hQ.out _ _ ⟨ret_b (by simp_all), cmore (Below.refl _ _) _⟩
  · by_cases h2 : k = 2
    · subst h2
      go_enter Try.func52, Try.ntmps52
      go_wp2
      all_goals exact hQ.out _ _ ⟨ret_b (by simp_all), cmore (Below.refl _ _) _⟩
    · by_cases h1 : k = 1
      · subst h1
        go_enter Try.func52, Try.ntmps52
        go_wp2
        all_goals exact hQ.out _ _ ⟨ret_b (by simp_all <;> omega), cmore (Below.refl _ _) _⟩
      · have d0 : (k == 0) = false := beq_eq_false_iff_ne.2 h0
        have d1 : (k == 1) = false := beq_eq_false_iff_ne.2 h1
        have d2 : (k == 2) = false := beq_eq_false_iff_ne.2 h2
        have HN : Hid (¬ k = 0 ∧ ¬ k = 1 ∧ ¬ k = 2) := ⟨h0, h1, h2⟩
        clear h0 h1 h2
        go_enter Try.func52, Try.ntmps52
        go_wp2
        all_goals exact hQ.out _ _ ⟨ret_b (by have := HN.out; simp_all), cmore (Below.refl _ _) _⟩
set_option maxHeartbeats 1000000 in
theorem rrow_any (k : Int) (h1 : -200 ≤ k) (h2 : k ≤ 61) (w : World) :
    Calls Try.prog 96 #[.int .i64 k] w fun e w' => e = .returned (.tuple #[.int .u64 (numOf (headK k) : Nat), .int .i64 ((headK k).length : Nat)]) ∧ w' = w := by
  obtain ⟨a, b⟩ := headK_num k
  rw [a, b]
  clear a b
  refine cps fun Q hQ => ?_
  by_cases h : 0 ≤ k
  · rw [if_pos h, if_pos h] at hQ
    obtain ⟨d, rfl⟩ := Int.eq_ofNat_of_zero_le h
    rw [Int.toNat_natCast] at hQ
    obtain ⟨D, hD⟩ : ∃ D, D = d + 2 := ⟨_, rfl⟩
    rw [← hD] at hQ
    have e1 : IntKind.i64.wrap ((d : Int) + 2) = (D : Int) := by rw [wrapI (by omega)]; omega
    have e2 : IntKind.u64.wrap (IntKind.u64.wrap (2 ^ D) - 2) = ((2 ^ D - 2 : Nat) : Int) := by
      have c : ((2 : Int) ^ D) = ((2 ^ D : Nat) : Int) := by simp
      have p1 : 2 ^ D ≤ 2 ^ 63 := Nat.pow_le_pow_right (by decide) (by omega)
      have p2 : 2 ^ 2 ≤ 2 ^ D := Nat.pow_le_pow_right (by decide) (by omega)
      rw [c, wrapN, Nat.mod_eq_of_lt (by omega), IntKind.wrap_u64]
      generalize 2 ^ D = X at *
      omega
    have e3 : IntKind.u64.wrap (IntKind.u64.wrap (1 * 2 ^ D) - 2) = ((2 ^ D - 2 : Nat) : Int) := by rw [Int.one_mul]; exact e2
    generalize 2 ^ D - 2 = X at *
    have g2 : (0 : Int) ≤ (D : Int) := by omega
    have g3 : decide ((0 : Int) ≤ (d : Int)) = true := decide_eq_true (by omega)
    have gm : min D 64 = D := by omega
    clear hD h1 h2 h
    go_enter Try.func96, Try.ntmps96
    go_wp2
    exact hQ.out _ _ ⟨rfl, rfl⟩
  · rw [if_neg h, if_neg h] at hQ
    have e1 : IntKind.i64.wrap (1 - k) = (((1 - k).toNat : Nat) : Int) := by rw [wrapI (by omega)]; omega
    generalize (1 - k).toNat = X at *
    have g : decide (0 ≤ k) = false := decide_eq_false h
    go_enter Try.func96, Try.ntmps96
    go_wp2
    exact hQ.out _ _ ⟨rfl, rfl⟩
theorem rcompare_any {a h l : Nat} (rest : Bool) (ha : Tw a h l) (w : World) :
    Calls Try.prog 98 #[.agg #[.int .u64 h, .int .u64 l], .bool rest] w fun e w' => e = .returned (.int .i64 (cmpX a rest : Nat)) ∧ Below w.heap.size w w' := by
  have k1 := tcmp_any ha (b := 2 ^ 127) (h2 := 9223372036854775808) (l2 := 0) ⟨by decide, by decide, by decide⟩
  refine cps fun Q hQ => ?_
  unfold cmpX at hQ
  rcases Nat.lt_trichotomy a (2 ^ 127) with hc | hc | hc
  · rw [cmpN_lt hc] at k1
    rw [if_neg (by omega), if_neg (by omega)] at hQ
    by_cases h0 : a = 0
    · have hz : h = 0 ∧ l = 0 := by have := ha.eq; omega
      obtain ⟨rfl, rfl⟩ := hz
      subst h0
      clear ha hc
      cases rest
      all_goals
        go_enter Try.func98, Try.ntmps98
        go_wp2_with (go_at_call 65; refine (k1 _).mono ?_; rintro e w1 ⟨rfl, hb1⟩; obtain ⟨hc1, hf1⟩ := bcell hb1; have z1 : w.heap.size < w1.heap.size := (by have := hb1.size; simp at this; omega))
        exact hQ.out _ _ ⟨rfl, cthen (cmore (Below.refl _ _) _) hb1⟩
    · rw [if_neg (fun c => h0 c.1)] at hQ
      have hz : (¬ h = 0) ∨ (h = 0 ∧ ¬ l = 0) := by have := ha.eq; omega
      clear ha hc h0
      rcases hz with hz | ⟨rfl, hz⟩
      · have d1 : ((h : Int) == 0) = false := beq_eq_false_iff_ne.2 (by omega)
        clear hz
        go_enter Try.func98, Try.ntmps98
        go_wp2_with (go_at_call 65; refine (k1 _).mono ?_; rintro e w1 ⟨rfl, hb1⟩; obtain ⟨hc1, hf1⟩ := bcell hb1; have z1 : w.heap.size < w1.heap.size := (by have := hb1.size; simp at this; omega))
        exact hQ.out _ _ ⟨rfl, cthen (cmore (Below.refl _ _) _) hb1⟩
      · have d1 : ((l : Int) == 0) = false := beq_eq_false_iff_ne.2 (by omega)
        clear hz
        go_enter Try.func98, Try.ntmps98
        go_wp2_with (go_at_call 65; refine (k1 _).mono ?_; rintro e w1 ⟨rfl, hb1⟩; obtain ⟨hc1, hf1⟩ := bcell hb1; have z1 : w.heap.size < w1.heap.size := (by have := hb1.size; simp at this; omega))
        exact hQ.out _ _ ⟨rfl, cthen (cmore (Below.refl _ _) _) hb1⟩
  · subst hc
    rw [cmpN_eq] at k1
    rw [if_pos rfl] at hQ
    clear ha
    cases rest
    all_goals
      go_enter Try.func98, Try.ntmps98
      go_wp2_with (go_at_call 65; refine (k1 _).mono ?_; rintro e w1 ⟨rfl, hb1⟩)
      exact hQ.out _ _ ⟨rfl, cthen (cmore (Below.refl _ _) _) hb1⟩
  · rw [cmpN_gt hc] at k1
    rw [if_neg (by omega), if_pos hc] at hQ
    clear ha hc
    go_enter Try.func98, Try.ntmps98
    go_wp2_with (go_at_call 65; refine (k1 _).mono ?_; rintro e w1 ⟨rfl, hb1⟩)
    exact hQ.out _ _ ⟨rfl, cthen (cmore (Below.refl _ _) _) hb1⟩
end Go.Proofs.Ytheliihkkoohnaa

namespace Go.Proofs.Ytheliihkkoohnaa
open Go.ChangeShapes Go.WideShapes Go.ChangeAt Go.RowKit
set_option linter.unusedVariables false
set_option linter.unusedSimpArgs false
set_option maxRecDepth 100000

/-! ### what stands behind the run -/
theorem top_off (hi : Nat) (h1 : 9223372036854775808 ≤ hi) (h2 : hi < 18446744073709551616) : bits BinOp.andNot IntKind.u64 (hi : Int) 9223372036854775808 = ((hi - 9223372036854775808 : Nat) : Int) := by
  have := u64_andNot_nat hi 9223372036854775808 h2 (by decide)
  rw [show ((9223372036854775808 : Nat) : Int) = 9223372036854775808 from rfl] at this
  rw [this, show 18446744073709551615 - 9223372036854775808 = 2 ^ 63 - 1 by decide, Nat.and_two_pow_sub_one_eq_mod]
  have e : hi % 2 ^ 63 = hi - 9223372036854775808 := by omega
  rw [e]
theorem exp_or (h1 e : Nat) (h : h1 < 4611686018427387904) (he : e < 4) : bits BinOp.or IntKind.u64 (h1 : Int) (IntKind.u64.wrap ((e : Int) * 4611686018427387904)) = ((e * 4611686018427387904 + h1 : Nat) : Int) := by
  have e1 : IntKind.u64.wrap ((e : Int) * 4611686018427387904) = ((e * 4611686018427387904 : Nat) : Int) := by rw [IntKind.wrap_u64]; omega
  rw [e1, u64_or_nat h1 (e * 4611686018427387904) (by omega) (by omega)]
  congr 1
  have := Nat.two_pow_add_eq_or_of_lt (i := 62) (b := h1) h e
  rw [show 2 ^ 62 * e = e * 4611686018427387904 by rw [Nat.mul_comm]] at this
  rw [this, Nat.or_comm]
/-- an operation that its guard leaves out, carried to the front -/
theorem wpC_skip {P : Program} {ops : Array Oper} {Q : Exit → Act → World → Prop} {md : Region.Mode} {C : World → Prop} (i : Nat) {oi : Oper} {fuel : Nat} {listed : Array Bool} {a : Act} {w : World} (hi : ops[i]? = some oi)
    (hf : (Region.noSelect ops && Region.free md ops listed i && (Region.ready md ops listed).contains i) = true)
    (hQ : ∀ c a w, Q (.panic c) (a.put oi.dst undef) w → Q (.panic c) a w) (hwant : Region.wanted oi (yielded ops a.tmps) = false)
    (h : wpAnyC C P md ops Q fuel (listed.setIfInBounds i true) (a.put oi.dst undef) w) : wpAnyC C P md ops Q (fuel + 1) listed a w := by
  simp only [Bool.and_eq_true] at hf
  exact wpC_first hi (Region.noSelect_spec hf.1.1) hQ fuel listed a w (Region.free_spec hi hf.1.2) (by simpa using hf.2) (.inr ⟨hwant, rfl⟩) h
set_option maxHeartbeats 1000000 in
theorem rtail_any (e : Nat) (he : e < 4) (k : Int) (neg : Bool) (s : Int) (hi lo : Nat) (rest : Bool) (h : WordsX hi lo) {th tl : Nat} (ht : Tw (e * 2 ^ 126 + (manX hi lo - 2 ^ 127) / 2) th tl) (w : World) :
    Calls Try.prog 97 #[.int .i64 e, exV k neg s hi lo rest] w fun r w' => r = .returned (.tuple #[.agg #[.int .u64 th, .int .u64 tl], .bool (decide (lo % 2 = 1) || rest)]) ∧ Below w.heap.size w w' := by
  obtain ⟨a1, a2, a3⟩ := h
  have hA : Tw (manX hi lo - 2 ^ 127) (hi - 9223372036854775808) lo := by
    unfold manX
    rw [show (2 : Nat) ^ 127 = 9223372036854775808 * 18446744073709551616 by decide]
    exact ⟨by omega, by omega, by omega⟩
  obtain ⟨h1, l1, hs⟩ : ∃ h1 l1, Tw ((manX hi lo - 2 ^ 127) / 2 ^ 1) h1 l1 := by
    have := hA.lt
    exact ⟨(manX hi lo - 2 ^ 127) / 2 ^ 1 / 18446744073709551616, (manX hi lo - 2 ^ 127) / 2 ^ 1 % 18446744073709551616, by omega, by omega, by omega⟩
  have hh1 : h1 < 4611686018427387904 := by
    have e1 := hs.eq
    have e2 := hA.eq
    have e3 := hs.lo
    rw [e2] at e1
    clear ht hs hA
    omega
  have hlost : decide (lo % 2 = 1) = decide ((manX hi lo - 2 ^ 127) % 2 ^ 1 ≠ 0) := by
    rw [hA.eq]
    have : ((hi - 9223372036854775808) * 18446744073709551616 + lo) % 2 ^ 1 = lo % 2 := by omega
    rw [this]
    rcases Nat.mod_two_eq_zero_or_one lo with c | c <;> simp [c]
  obtain ⟨hth, rfl⟩ := ht.one (show Tw (e * 2 ^ 126 + (manX hi lo - 2 ^ 127) / 2) (e * 4611686018427387904 + h1) l1 from ⟨by
    have e1 := hs.eq
    rw [Nat.pow_one] at e1
    rw [e1, show (2 : Nat) ^ 126 = 4611686018427387904 * 18446744073709551616 by decide]
    omega, by omega, hs.lo⟩)
  have k1 := fun w => tshr_any 1 (by decide) hA hs hlost w
  have f1 := top_off hi a1 a2
  have f2 := exp_or h1 e hh1 he
  have f3 : IntKind.u64.wrap (e : Int) = (e : Int) := by rw [IntKind.wrap_u64]; omega
  have f4 : bits BinOp.or IntKind.u64 (h1 : Int) (IntKind.u64.wrap (IntKind.u64.wrap (e : Int) * 4611686018427387904)) = ((e * 4611686018427387904 + h1 : Nat) : Int) := by rw [f3]; exact f2
  have f5 : bits BinOp.or IntKind.u64 (h1 : Int) ((e : Int) * 4611686018427387904) = ((e * 4611686018427387904 + h1 : Nat) : Int) := by
    rw [← f2]; congr 1; rw [IntKind.wrap_u64]; omega
  rw [← hth] at f2 f4 f5
  obtain ⟨hi', hhi⟩ : ∃ x, x = hi - 9223372036854775808 := ⟨_, rfl⟩
  rw [← hhi] at f1 k1
  clear hA hs hlost ht a1 a2 a3 hh1 hth hhi
  generalize decide (lo % 2 = 1) = lost at *
  unfold exV
  refine cps fun Q hQ => ?_
  cases lost
  · go_enter Try.func97, Try.ntmps97
    go_wp2_with (go_at_call 67; refine (k1 _).mono ?_; rintro e w1 ⟨rfl, hb1⟩; obtain ⟨hc1, hf1⟩ := bcell hb1; have z1 : w.heap.size + 1 < w1.heap.size := (by have := hb1.size; simp at this; omega); have z0 : w.heap.size < w1.heap.size := (by omega))
    refine wpC_region (fun W => W.cell? ⟨w.heap.size, 5, none⟩ = some (.bool rest) ∧ W.cell? ⟨w1.heap.size, 0, none⟩ = some (.int .u64 th) ∧ W.cell? ⟨w1.heap.size, 1, none⟩ = some (.int .u64 tl)) (by kernel_rfl) ?_
    refine wpC_take 0 (v := ?_) rfl (by kernel_rfl) (fun _ _ _ h => h) (by kernel_rfl) ?_ ?_; rotate_left; · (intro wC hC; obtain ⟨c1, c2, c3⟩ := hC; go_simp <;> with_reducible rfl)
    refine wpC_take 1 (v := ?_) rfl (by kernel_rfl) (fun _ _ _ h => h) (by kernel_rfl) ?_ ?_; rotate_left; · (intro wC hC; obtain ⟨c1, c2, c3⟩ := hC; go_simp <;> with_reducible rfl)
    refine wpC_take 2 (v := ?_) rfl (by kernel_rfl) (fun _ _ _ h => h) (by kernel_rfl) ?_ ?_; rotate_left; · (intro wC hC; obtain ⟨c1, c2, c3⟩ := hC; go_simp <;> with_reducible rfl)
    refine wpC_take 3 (v := ?_) rfl (by kernel_rfl) (fun _ _ _ h => h) (by kernel_rfl) ?_ ?_; rotate_left; · (intro wC hC; obtain ⟨c1, c2, c3⟩ := hC; go_simp <;> with_reducible rfl)
    refine wpC_take 4 (v := ?_) rfl (by kernel_rfl) (fun _ _ _ h => h) (by kernel_rfl) ?_ ?_; rotate_left; · (intro wC hC; obtain ⟨c1, c2, c3⟩ := hC; go_simp <;> with_reducible rfl)
    refine wpC_take 5 (v := ?_) rfl (by kernel_rfl) (fun _ _ _ h => h) (by kernel_rfl) ?_ ?_; rotate_left; · (intro wC hC; obtain ⟨c1, c2, c3⟩ := hC; go_simp <;> with_reducible rfl)
    refine wpC_step 6 rfl (by kernel_rfl) (by kernel_rfl) (by simp [go_sem, hc1, z0, f5]) (fun K hK => ?_)
    go_simp
    try (refine hK _ _ ?_; clear hK K)
    refine wpC_take 7 (v := ?_) rfl (by kernel_rfl) (fun _ _ _ h => h) (by kernel_rfl) ?_ ?_; rotate_left; · (intro wC hC; obtain ⟨c1, c2, c3⟩ := hC; go_simp <;> with_reducible rfl)
    refine wpC_done (by kernel_rfl) (by simp [go_sem, hc1, z0, f5]) ?_
    go_wp2
    refine bodyPost_ret (v := .tuple #[.agg #[.int .u64 th, .int .u64 tl], .bool _]) (by simp [results, Try.results97, go_sem, hc1, z0, z1]) rfl (hQ.out _ _ ⟨rfl, ?_⟩)
    exact bdrew (bmore (bset (bset (bthen (bmore (bmore (Below.refl _ _) _) _) hb1) (by omega) _ _) (by omega) _ _) _)
  · go_enter Try.func97, Try.ntmps97
    go_wp2_with (go_at_call 67; refine (k1 _).mono ?_; rintro e w1 ⟨rfl, hb1⟩; obtain ⟨hc1, hf1⟩ := bcell hb1; have z1 : w.heap.size + 1 < w1.heap.size := (by have := hb1.size; simp at this; omega); have z0 : w.heap.size < w1.heap.size := (by omega))
    refine wpC_region (fun W => W.cell? ⟨w.heap.size, 5, none⟩ = some (.bool rest) ∧ W.cell? ⟨w1.heap.size, 0, none⟩ = some (.int .u64 th) ∧ W.cell? ⟨w1.heap.size, 1, none⟩ = some (.int .u64 tl)) (by kernel_rfl) ?_
    refine wpC_take 0 (v := ?_) rfl (by kernel_rfl) (fun _ _ _ h => h) (by kernel_rfl) ?_ ?_; rotate_left; · (intro wC hC; obtain ⟨c1, c2, c3⟩ := hC; go_simp <;> with_reducible rfl)
    refine wpC_take 1 (v := ?_) rfl (by kernel_rfl) (fun _ _ _ h => h) (by kernel_rfl) ?_ ?_; rotate_left; · (intro wC hC; obtain ⟨c1, c2, c3⟩ := hC; go_simp <;> with_reducible rfl)
    refine wpC_take 2 (v := ?_) rfl (by kernel_rfl) (fun _ _ _ h => h) (by kernel_rfl) ?_ ?_; rotate_left; · (intro wC hC; obtain ⟨c1, c2, c3⟩ := hC; go_simp <;> with_reducible rfl)
    refine wpC_skip 3 rfl (by kernel_rfl) (fun _ _ _ h => h) (by kernel_rfl) ?_
    refine wpC_skip 4 rfl (by kernel_rfl) (fun _ _ _ h => h) (by kernel_rfl) ?_
    refine wpC_take 5 (v := ?_) rfl (by kernel_rfl) (fun _ _ _ h => h) (by kernel_rfl) ?_ ?_; rotate_left; · (intro wC hC; obtain ⟨c1, c2, c3⟩ := hC; go_simp <;> with_reducible rfl)
    refine wpC_step 6 rfl (by kernel_rfl) (by kernel_rfl) (by simp [go_sem, hc1, z0, f5]) (fun K hK => ?_)
    go_simp
    try (refine hK _ _ ?_; clear hK K)
    refine wpC_take 7 (v := ?_) rfl (by kernel_rfl) (fun _ _ _ h => h) (by kernel_rfl) ?_ ?_; rotate_left; · (intro wC hC; obtain ⟨c1, c2, c3⟩ := hC; go_simp <;> with_reducible rfl)
    refine wpC_done (by kernel_rfl) (by simp [go_sem, hc1, z0, f5]) ?_
    go_wp2
    refine bodyPost_ret (v := .tuple #[.agg #[.int .u64 th, .int .u64 tl], .bool _]) (by simp [results, Try.results97, go_sem, hc1, z0, z1]) rfl (hQ.out _ _ ⟨rfl, ?_⟩)
    exact bdrew (bmore (bset (bset (bthen (bmore (bmore (Below.refl _ _) _) _) hb1) (by omega) _ _) (by omega) _ _) _)
end Go.Proofs.Ytheliihkkoohnaa

namespace Go.Proofs.Ytheliihkkoohnaa
open Go.ChangeShapes Go.WideShapes Go.ChangeAt Go.RowKit
set_option linter.unusedVariables false
set_option linter.unusedSimpArgs false
set_option maxRecDepth 100000

/-! ### the string, cut -/
theorem pow_join (R room n : Nat) (h : room ≤ 62) : R * 2 ^ room < 2 ^ 64 → IntKind.u64.wrap ((R : Int) * 2 ^ room) = ((R * 2 ^ room : Nat) : Int) := by
  intro h2
  have e : ((R : Int) * 2 ^ room) = ((R * 2 ^ room : Nat) : Int) := by simp
  rw [e, wrapN, Nat.mod_eq_of_lt h2]
theorem tail_half (s : Int) (M : Nat) (h : Mant M) : tailN s M / 2 < 340282366920938463463374607431768211456 := by
  have := tail_lt s M h
  rw [show (2 : Nat) ^ 129 = 340282366920938463463374607431768211456 * 2 by decide] at this
  exact Nat.div_lt_of_lt_mul (by rw [Nat.mul_comm]; exact this)
theorem half_pow (x y : Nat) : (x * (2 ^ 127) + y) / 2 = x * 2 ^ 126 + y / 2 := by
  rw [show (2 : Nat) ^ 127 = 2 * 2 ^ 126 by decide, show x * (2 * 2 ^ 126) = 2 * (x * 2 ^ 126) by rw [Nat.mul_left_comm], Nat.mul_add_div (by decide)]
theorem tw_of {x : Nat} (h : x < 340282366920938463463374607431768211456) : ∃ a b, Tw x a b := ⟨x / 18446744073709551616, x % 18446744073709551616, by omega, by omega, by omega⟩
set_option maxHeartbeats 2000000 in
theorem rcutstr_any (n : Nat) (neg : Bool) (s : Int) (hi lo : Nat) (rest : Bool) (hn : Wd n) (h : WordsX hi lo) (h1 : s < 4 * n - 8) (h2 : 8 - 4 * (n : Int) ≤ s) (w : World) :
    Calls Try.prog 60 #[.int .i64 n, exV 1 neg s hi lo rest] w fun e w' => e = .returned (.tuple #[.int .u64 (numOf ((strX s hi lo).take (n - 1)) : Nat), .int .i64 (leftL ((strX s hi lo).drop (n - 1)) rest : Nat)]) ∧ Below w.heap.size w w' := by
  have hw := wd_le hn
  obtain ⟨hr1, hr2⟩ := head_room n s hn h1 h2
  obtain ⟨room, hroom⟩ : ∃ r, r = n - 1 - (headK (s / 4)).length := ⟨_, rfl⟩
  obtain ⟨B, hB⟩ : ∃ B, B = tailN s (manX hi lo) / 2 := ⟨_, rfl⟩
  obtain ⟨c1, c2, c3⟩ := cut_parts n s hi lo rest h hr1 hw.2 B room hB hroom
  have hrl := numOf_lt (headK (s / 4))
  have hBe : B = (s % 4).toNat * 2 ^ 126 + (manX hi lo - 2 ^ 127) / 2 := by
    rw [hB]; unfold tailN
    exact half_pow _ _
  have hBl : B < 340282366920938463463374607431768211456 := hB ▸ tail_half s (manX hi lo) h.mant
  obtain ⟨bh, bl, hTB⟩ : ∃ bh bl, Tw B bh bl := tw_of hBl
  have k2 := fun w => rtail_any (s % 4).toNat (by omega) 1 neg s hi lo rest h (hBe ▸ hTB) w
  have k1 := rrow_any (s / 4) (by omega) (by omega)
  obtain ⟨F, hF⟩ : ∃ F, F = B / 2 ^ (128 - room) := ⟨_, rfl⟩
  rw [← hF] at c1 c2
  have hr62 : room ≤ 62 := by omega
  have hF62 : F < 4611686018427387904 := Nat.lt_of_lt_of_le c2 (Nat.le_trans (Nat.pow_le_pow_right (by decide) hr62) (by decide))
  have hTF : Tw (B / 2 ^ (128 - room)) 0 F := ⟨by rw [← hF]; omega, by omega, by omega⟩
  have k3 := fun w => tshr_any (c := decide (B % 2 ^ (128 - room) ≠ 0)) (128 - room) (by omega) hTB hTF rfl w
  obtain ⟨L, hL⟩ : ∃ L, L = B * 2 ^ room % 2 ^ 128 := ⟨_, rfl⟩
  rw [← hL] at c3
  have hLl : L < 340282366920938463463374607431768211456 := by rw [hL]; exact Nat.mod_lt _ (by decide)
  obtain ⟨lh, ll, hTL⟩ : ∃ lh ll, Tw L lh ll := tw_of hLl
  have k4 := fun w => tshl_any (c := decide (340282366920938463463374607431768211456 ≤ B * 2 ^ room)) room (by omega) hTB (hL ▸ hTL) rfl w
  have k5 := rcompare_any (decide (lo % 2 = 1) || rest) hTL
  rw [← c3] at k5
  have hrun : numOf (headK (s / 4)) * 2 ^ room + 2 ^ room ≤ 2 ^ 63 := by
    rw [← Nat.succ_mul]
    refine Nat.le_trans (Nat.mul_le_mul_right _ hrl) ?_
    rw [← Nat.pow_add]
    exact Nat.pow_le_pow_right (by decide) (by omega)
  have w1 := pow_join (numOf (headK (s / 4))) room n hr62 (by omega)
  have w2 := u64_or_nat (numOf (headK (s / 4)) * 2 ^ room) F (by omega) (by omega)
  have w3 : (numOf (headK (s / 4)) * 2 ^ room) ||| F = numOf (headK (s / 4)) * 2 ^ room + F := by
    have := Nat.two_pow_add_eq_or_of_lt (i := room) (b := F) c2 (numOf (headK (s / 4)))
    rw [Nat.mul_comm (2 ^ room)] at this
    exact this.symm
  rw [w3, ← c1] at w2
  have e1 : IntKind.i64.wrap (s / 4 * 4) = s / 4 * 4 := wrapI (by omega)
  have e2 : IntKind.i64.wrap (s - s / 4 * 4) = (((s % 4).toNat : Nat) : Int) := by rw [wrapI (by omega)]; omega
  have e3 : IntKind.i64.wrap ((n : Int) - 1) = (n : Int) - 1 := wrapI (by omega)
  have e4 : IntKind.i64.wrap ((n : Int) - 1 - ((headK (s / 4)).length : Nat)) = (room : Int) := by rw [wrapI (by omega)]; omega
  have e5 : IntKind.i64.wrap (128 - (room : Int)) = ((128 - room : Nat) : Int) := by rw [wrapI (by omega)]; omega
  have g0 : (0 : Int) ≤ (room : Int) := by omega
  have gm : min room 64 = room := by omega
  clear hF hL hB hBe hBl hTB hTF hTL hLl hrun w3 hrl c1 c2 c3 hr1 hr2 hroom h1 h2 h hn
  generalize numOf (headK (s / 4)) * 2 ^ room = RR at *
  generalize numOf (headK (s / 4)) = R at *
  generalize (headK (s / 4)).length = size at *
  generalize leftL ((strX s hi lo).drop (n - 1)) rest = LF at *
  generalize numOf ((strX s hi lo).take (n - 1)) = P at *
  generalize decide (B % 2 ^ (128 - room) ≠ 0) = q1 at *
  generalize decide (340282366920938463463374607431768211456 ≤ B * 2 ^ room) = q2 at *
  generalize (decide (lo % 2 = 1) || rest) = rr at *
  generalize (s % 4).toNat = ee at *
  generalize 128 - room = j at *
  unfold exV at *
  refine cps fun Q hQ => ?_
  go_enter Try.func60, Try.ntmps60
  go_wp2_with (first
    | (go_at_call 96; refine (k1 _).mono ?_; rintro e wx ⟨rfl, hwx⟩; rw [hwx]; clear hwx wx)
    | (go_at_call 97; refine (k2 _).mono ?_; rintro e w1 ⟨rfl, hb1⟩; have z1 : w.heap.size < w1.heap.size := (by have := hb1.size; simp at this; omega); have HB1 : Hid (Below _ _ _) := cthen (cmore (Below.refl _ _) _) hb1; clear hb1)
    | (go_at_call 67; refine (k3 _).mono ?_; rintro e w2 ⟨rfl, hb2⟩; have R9 := (hb2.block w1.heap.size (by simp)).trans (rownew w1 _ _); have z2 : w1.heap.size < w2.heap.size := (by have := hb2.size; simp at this; omega); have x0 := rowcell R9 0; have x1 := rowcell R9 1; simp only [List.getElem?_toArray, List.getElem?_cons_zero, List.getElem?_cons_succ] at x0 x1; have HB2 : Hid (Below _ _ _) := cthen (cmore HB1.out _) hb2; have HR9 : Hid _ := R9; clear hb2 R9)
    | (go_at_call 66; refine (k4 _).mono ?_; rintro e w3 ⟨rfl, hb3⟩; have R12 := (hb3.block w2.heap.size (by simp)).trans (rownew w2 _ _); have z3 : w2.heap.size < w3.heap.size := (by have := hb3.size; simp at this; omega); have y0 := rowcell R12 0; have y1 := rowcell R12 1; simp only [List.getElem?_toArray, List.getElem?_cons_zero, List.getElem?_cons_succ] at y0 y1; have HB3 : Hid (Below _ _ _) := cthen (cmore HB2.out _) hb3; have HR12 : Hid _ := R12; clear hb3 R12))
  have R15 := rownew w3 #[.int .u64 lh, .int .u64 ll] 69
  have BW : Hid (Below _ _ _) := cmore HB3.out (.cells #[.int .u64 lh, .int .u64 ll] 69)
  have x120 := (Below.heap_alloc w3 (.cells #[.int .u64 lh, .int .u64 ll] 69) _ z3).trans HR12.out
  obtain ⟨W, hW⟩ : ∃ W, W = w3.alloc (.cells #[.int .u64 lh, .int .u64 ll] 69) := ⟨_, rfl⟩
  rw [← hW] at R15 x120 BW ⊢
  have u1 := rowcell x120 1
  have v0 := rowcell R15 0
  have v1 := rowcell R15 1
  simp only [List.getElem?_toArray, List.getElem?_cons_zero, List.getElem?_cons_succ] at u1 v0 v1
  clear hW
  refine wpC_region (fun W => W.cell? ⟨w2.heap.size, 1, none⟩ = some (.int .u64 F) ∧ W.cell? ⟨w3.heap.size, 0, none⟩ = some (.int .u64 lh) ∧ W.cell? ⟨w3.heap.size, 1, none⟩ = some (.int .u64 ll)) (by kernel_rfl) ?_
  refine wpC_take 0 (v := ?_) rfl (by kernel_rfl) (fun _ _ _ h => h) (by kernel_rfl) ?_ ?_; rotate_left; · (intro wC hC; obtain ⟨c1, c2, c3⟩ := hC; go_simp <;> with_reducible rfl)
  refine wpC_take 1 (v := ?_) rfl (by kernel_rfl) (fun _ _ _ h => h) (by kernel_rfl) ?_ ?_; rotate_left; · (intro wC hC; obtain ⟨c1, c2, c3⟩ := hC; go_simp <;> with_reducible rfl)
  refine wpC_take 2 (v := ?_) rfl (by kernel_rfl) (fun _ _ _ h => h) (by kernel_rfl) ?_ ?_; rotate_left; · (intro wC hC; obtain ⟨c1, c2, c3⟩ := hC; go_simp <;> with_reducible rfl)
  refine wpC_take 3 (v := ?_) rfl (by kernel_rfl) (fun _ _ _ h => h) (by kernel_rfl) ?_ ?_; rotate_left; · (intro wC hC; obtain ⟨c1, c2, c3⟩ := hC; go_simp <;> with_reducible rfl)
  refine wpC_take 4 (v := ?_) rfl (by kernel_rfl) (fun _ _ _ h => h) (by kernel_rfl) ?_ ?_; rotate_left; · (intro wC hC; obtain ⟨c1, c2, c3⟩ := hC; go_simp <;> with_reducible rfl)
  refine wpC_take 5 (v := ?_) rfl (by kernel_rfl) (fun _ _ _ h => h) (by kernel_rfl) ?_ ?_; rotate_left; · (intro wC hC; obtain ⟨c1, c2, c3⟩ := hC; go_simp <;> with_reducible rfl)
  refine wpC_take 6 (v := ?_) rfl (by kernel_rfl) (fun _ _ _ h => h) (by kernel_rfl) ?_ ?_; rotate_left; · (intro wC hC; obtain ⟨c1, c2, c3⟩ := hC; go_simp <;> with_reducible rfl)
  refine wpC_take 7 (v := ?_) rfl (by kernel_rfl) (fun _ _ _ h => h) (by kernel_rfl) ?_ ?_; rotate_left; · (intro wC hC; obtain ⟨c1, c2, c3⟩ := hC; go_simp <;> with_reducible rfl)
  refine wpC_step 8 rfl (by kernel_rfl) (by kernel_rfl) ⟨u1, v0, v1⟩ (fun K hK => ?_)
  go_simp
  go_wp2_with ((go_at_call 98; refine (k5 _).mono ?_; rintro e w5 ⟨rfl, hb5⟩))
  try (refine hK _ _ ?_; clear hK K)
  refine wpC_take 9 (v := ?_) rfl (by kernel_rfl) (fun _ _ _ h => h) (by kernel_rfl) ?_ ?_; rotate_left; · (intro wC hC; obtain ⟨c1, c2, c3⟩ := hC; go_simp <;> with_reducible rfl)
  refine wpC_take 10 (v := ?_) rfl (by kernel_rfl) (fun _ _ _ h => h) (by kernel_rfl) ?_ ?_; rotate_left; · (intro wC hC; obtain ⟨c1, c2, c3⟩ := hC; go_simp <;> with_reducible rfl)
  have bcl := cdrew (Below.refl W.heap.size W)
  refine wpC_done (by kernel_rfl) (by have z4 : w2.heap.size < W.heap.size := rowlt x120; have z5 : w3.heap.size < W.heap.size := rowlt R15; exact ⟨(hb5.cell (p := ⟨w2.heap.size, 1, none⟩) z4).trans u1, (hb5.cell (p := ⟨w3.heap.size, 0, none⟩) z5).trans v0, (hb5.cell (p := ⟨w3.heap.size, 1, none⟩) z5).trans v1⟩) ?_
  go_wp2
  go_ret2
  exact hQ.out _ _ ⟨rfl, cthen BW.out (cthen bcl hb5)⟩
end Go.Proofs.Ytheliihkkoohnaa

namespace Go.Proofs.Ytheliihkkoohnaa
open Go.ChangeShapes Go.WideShapes Go.ChangeAt Go.RowKit
set_option linter.unusedVariables false
set_option linter.unusedSimpArgs false
set_option maxRecDepth 100000

/-! ### Cut -/
theorem rcut_no (n : Int) (k : Int) (neg : Bool) (s : Int) (hi lo : Nat) (rest : Bool) (hh : hi < 2 ^ 64) (hl : lo < 2 ^ 64) (hn : isW n = false) (w : World) :
    Calls Try.prog 35 #[.int .i64 n, exV k neg s hi lo rest] w fun e w' => e = .returned (.tuple #[.int .u64 0, .int .i64 0, codeV 2]) ∧ Below w.heap.size w w' := by
  have k1 := of_no n hn
  unfold exV
  unfold shp0 at k1
  clear hn
  refine cps fun Q hQ => ?_
  go_enter Try.func35, Try.ntmps35
  go_wp2_with (go_at_call 59; refine (k1 _).mono ?_; rintro e w1 ⟨rfl, hb1⟩)
  go_ret3
  exact hQ.out _ _ ⟨rfl, cmore (cthen (cmore (Below.refl _ _) _) hb1) _⟩
theorem rcut_bad (n : Nat) (k : Int) (neg : Bool) (s : Int) (hi lo : Nat) (rest : Bool) (hn : Wd n) (hh : hi < 2 ^ 64) (hl : lo < 2 ^ 64) (hs : soundX k neg s hi lo rest = false) (w : World) :
    Calls Try.prog 35 #[.int .i64 n, exV k neg s hi lo rest] w fun e w' => e = .returned (.tuple #[.int .u64 0, .int .i64 0, codeV 1]) ∧ Below w.heap.size w w' := by
  have k1 := of_ok n hn
  have k2 := rsound_any k neg s hi lo rest 1099511627776 hh (by decide)
  rw [soundF_X, hs] at k2
  unfold exV at *
  unfold shp at k1
  generalize ((2 ^ (n - 1) : Nat) : Int) = nv at *
  generalize ((2 ^ (n - 1) - 1 : Nat) : Int) = mv at *
  generalize ((4 * n - 8 : Nat) : Int) = tv at *
  clear hn hs
  refine cps fun Q hQ => ?_
  go_enter Try.func35, Try.ntmps35
  go_wp2_with (first
    | (go_at_call 59; go_must (refine (k1 _).mono ?_); rintro e w1 ⟨rfl, hb1⟩; have R1 := (hb1.block w.heap.size (by simp)).trans (rownew w _ _); have z1 : w.heap.size < w1.heap.size := (by have := hb1.size; simp at this; omega); have hne1 : ¬ w.heap.size = w1.heap.size := (by omega); have hne2 : ¬ w1.heap.size = w.heap.size := (by omega); have b0 := rowcell R1 0; have b1 := rowcell R1 1; have b2 := rowcell R1 2; have b3 := rowcell R1 3; have b4 := rowcell R1 4; have b5 := rowcell R1 5; simp only [List.getElem?_toArray, List.getElem?_cons_zero, List.getElem?_cons_succ] at b0 b1 b2 b3 b4 b5; have HR1 : Hid _ := R1; have HB1 : Hid (Below _ _ _) := hb1; clear hb1 R1)
    | (go_at_call 52; go_must (refine (k2 _).mono ?_); rintro e w2 ⟨rfl, hb2⟩; have HB2 : Hid (Below _ _ _) := hb2; clear hb2))
  go_ret3
  exact hQ.out _ _ ⟨rfl, cthen (cmore (cthen (cmore (Below.refl _ _) _) HB1.out) _) HB2.out⟩
theorem rcut_zero (n : Nat) (hn : Wd n) (w : World) :
    Calls Try.prog 35 #[.int .i64 n, exV 0 false 0 0 0 false] w fun e w' => e = .returned (.tuple #[.int .u64 0, .int .i64 0, .nilIface]) ∧ Below w.heap.size w w' := by
  have k1 := of_ok n hn
  have k2 := rsound_any 0 false 0 0 0 false 1099511627776 (by decide) (by decide)
  rw [soundF_X, show soundX 0 false 0 0 0 false = true from rfl] at k2
  unfold exV at *
  unfold shp at k1
  rw [show ((0 : Nat) : Int) = 0 from rfl] at *
  generalize ((2 ^ (n - 1) : Nat) : Int) = nv at *
  generalize ((2 ^ (n - 1) - 1 : Nat) : Int) = mv at *
  generalize ((4 * n - 8 : Nat) : Int) = tv at *
  clear hn
  refine cps fun Q hQ => ?_
  go_enter Try.func35, Try.ntmps35
  go_wp2_with (first
    | (go_at_call 59; go_must (refine (k1 _).mono ?_); rintro e w1 ⟨rfl, hb1⟩; have R1 := (hb1.block w.heap.size (by simp)).trans (rownew w _ _); have z1 : w.heap.size < w1.heap.size := (by have := hb1.size; simp at this; omega); have hne1 : ¬ w.heap.size = w1.heap.size := (by omega); have hne2 : ¬ w1.heap.size = w.heap.size := (by omega); have b0 := rowcell R1 0; have b1 := rowcell R1 1; have b2 := rowcell R1 2; have b3 := rowcell R1 3; have b4 := rowcell R1 4; have b5 := rowcell R1 5; simp only [List.getElem?_toArray, List.getElem?_cons_zero, List.getElem?_cons_succ] at b0 b1 b2 b3 b4 b5; have HR1 : Hid _ := R1; have HB1 : Hid (Below _ _ _) := hb1; clear hb1 R1)
    | (go_at_call 52; go_must (refine (k2 _).mono ?_); rintro e w2 ⟨rfl, hb2⟩; have R2 := (hb2.block w.heap.size (by simp; omega)).trans ((Below.heap_alloc w1 _ _ z1).trans HR1.out); have S2 := (hb2.block w1.heap.size (by simp)).trans (rownew w1 _ _); have z2 : w1.heap.size < w2.heap.size := (by have := hb2.size; simp at this; omega); have y2 : w.heap.size < w2.heap.size := (Nat.lt_trans z1 z2); have c0 := rowcell R2 0; have c1 := rowcell R2 1; have c2 := rowcell R2 2; simp only [List.getElem?_toArray, List.getElem?_cons_zero, List.getElem?_cons_succ] at c0 c1 c2; have s1 := rowcell S2 1; have s2 := rowcell S2 2; have s3 := rowcell S2 3; have s4 := rowcell S2 4; simp only [List.getElem?_toArray, List.getElem?_cons_zero, List.getElem?_cons_succ] at s1 s2 s3 s4; have HB2 : Hid (Below _ _ _) := hb2; clear hb2 R2 S2))
  go_ret3
  exact hQ.out _ _ ⟨rfl, cthen (cmore (cthen (cmore (Below.refl _ _) _) HB1.out) _) HB2.out⟩
theorem rcut_nar (n : Nat) (hn : Wd n) (w : World) :
    Calls Try.prog 35 #[.int .i64 n, exV 2 false 0 0 0 false] w fun e w' => e = .returned (.tuple #[.int .u64 (2 ^ (n - 1) : Nat), .int .i64 0, .nilIface]) ∧ Below w.heap.size w w' := by
  have k1 := of_ok n hn
  have k2 := rsound_any 2 false 0 0 0 false 1099511627776 (by decide) (by decide)
  rw [soundF_X, show soundX 2 false 0 0 0 false = true from rfl] at k2
  unfold exV at *
  unfold shp at k1
  rw [show ((0 : Nat) : Int) = 0 from rfl] at *
  generalize ((2 ^ (n - 1) : Nat) : Int) = nv at *
  generalize ((2 ^ (n - 1) - 1 : Nat) : Int) = mv at *
  generalize ((4 * n - 8 : Nat) : Int) = tv at *
  clear hn
  refine cps fun Q hQ => ?_
  go_enter Try.func35, Try.ntmps35
  go_wp2_with (first
    | (go_at_call 59; go_must (refine (k1 _).mono ?_); rintro e w1 ⟨rfl, hb1⟩; have R1 := (hb1.block w.heap.size (by simp)).trans (rownew w _ _); have z1 : w.heap.size < w1.heap.size := (by have := hb1.size; simp at this; omega); have hne1 : ¬ w.heap.size = w1.heap.size := (by omega); have hne2 : ¬ w1.heap.size = w.heap.size := (by omega); have b0 := rowcell R1 0; have b1 := rowcell R1 1; have b2 := rowcell R1 2; have b3 := rowcell R1 3; have b4 := rowcell R1 4; have b5 := rowcell R1 5; simp only [List.getElem?_toArray, List.getElem?_cons_zero, List.getElem?_cons_succ] at b0 b1 b2 b3 b4 b5; have HR1 : Hid _ := R1; have HB1 : Hid (Below _ _ _) := hb1; clear hb1 R1)
    | (go_at_call 52; go_must (refine (k2 _).mono ?_); rintro e w2 ⟨rfl, hb2⟩; have R2 := (hb2.block w.heap.size (by simp; omega)).trans ((Below.heap_alloc w1 _ _ z1).trans HR1.out); have S2 := (hb2.block w1.heap.size (by simp)).trans (rownew w1 _ _); have z2 : w1.heap.size < w2.heap.size := (by have := hb2.size; simp at this; omega); have y2 : w.heap.size < w2.heap.size := (Nat.lt_trans z1 z2); have c0 := rowcell R2 0; have c1 := rowcell R2 1; have c2 := rowcell R2 2; simp only [List.getElem?_toArray, List.getElem?_cons_zero, List.getElem?_cons_succ] at c0 c1 c2; have s1 := rowcell S2 1; have s2 := rowcell S2 2; have s3 := rowcell S2 3; have s4 := rowcell S2 4; simp only [List.getElem?_toArray, List.getElem?_cons_zero, List.getElem?_cons_succ] at s1 s2 s3 s4; have HB2 : Hid (Below _ _ _) := hb2; clear hb2 R2 S2))
  go_ret3
  exact hQ.out _ _ ⟨rfl, cthen (cmore (cthen (cmore (Below.refl _ _) _) HB1.out) _) HB2.out⟩
theorem least_kind (n : Nat) (hn : Wd n) : kindOf n (1 % 2 ^ n) = 1 := by rcases hn with rfl | rfl | rfl | rfl <;> decide
theorem least_scale (n : Nat) (hn : Wd n) : scaleL (strS n 1) = 8 - 4 * (n : Int) := by rcases hn with rfl | rfl | rfl | rfl <;> decide +kernel
/-- the least value's own string: all of it before the cut -/
theorem least_cut (n : Nat) (hi lo : Nat) (rest : Bool) (hn : Wd n) (h : justX hi lo rest = true) :
    numOf ((strX (8 - 4 * (n : Int)) hi lo).take (n - 1)) = 1 ∧ leftL ((strX (8 - 4 * (n : Int)) hi lo).drop (n - 1)) rest = 0 := by
  have hw := wd_le hn
  have e1 : (8 - 4 * (n : Int)) / 4 = 2 - n := by omega
  have e2 : ((8 - 4 * (n : Int)) % 4).toNat = 0 := by omega
  have hk : headK (2 - (n : Int)) = noughts (n - 2) ++ [true] := by
    unfold headK
    rw [if_neg (by omega), show (-(2 - (n : Int))).toNat = n - 2 by omega]
    try rfl
  have hl : (noughts (n - 2) ++ [true]).length = n - 1 := by simp [noughts]; omega
  have e : strX (8 - 4 * (n : Int)) hi lo = (noughts (n - 2) ++ [true]) ++ (bitsOf 0 2 ++ digX hi lo) := by
    unfold strX; rw [e1, e2, hk]; simp
  unfold justX at h
  have hr : rest = false := by cases rest <;> simp at h ⊢
  have ha : (digX hi lo).any id = false := by rw [hr] at h; simpa using h
  rw [e]
  refine ⟨?_, ?_⟩
  · rw [List.take_append, List.take_of_length_le (by omega), hl, Nat.sub_self, List.take_zero, List.append_nil, numOf_append, numOf_noughts]
    rfl
  · rw [List.drop_append, List.drop_of_length_le (by omega), hl, Nat.sub_self, List.drop_zero, List.nil_append]
    have : bitsOf 0 2 = [false, false] := rfl
    rw [this]
    unfold leftL
    show (if false = true then _ else _) = 0
    have hd : (([false, false] ++ digX hi lo).drop 1).any id = false := by
      show (false :: digX hi lo).any id = false
      rw [List.any_cons, ha]; rfl
    rw [hd, hr]; rfl
set_option maxHeartbeats 2000000 in
theorem rcut_real (n : Nat) (neg : Bool) (s : Int) (hi lo : Nat) (rest : Bool) (hn : Wd n) (hs : soundX 1 neg s hi lo rest = true) (h : WordsX hi lo) (w : World) :
    Calls Try.prog 35 #[.int .i64 n, exV 1 neg s hi lo rest] w fun e w' => e = .returned (.tuple #[.int .u64 (cutX n s hi lo rest).1, .int .i64 (cutX n s hi lo rest).2, .nilIface]) ∧ Below w.heap.size w w' := by
  have hw := wd_le hn
  have k1 := of_ok n hn
  have k2 := rsound_any 1 neg s hi lo rest 1099511627776 h.hi64 (by decide)
  rw [soundF_X, hs] at k2
  have k3 := cdecode_real n 1 hn (by decide) (least_kind n hn)
  rw [least_scale n hn] at k3
  have htv : ((4 * n - 8 : Nat) : Int) = 4 * (n : Int) - 8 := by omega
  unfold shp at k1
  rw [htv] at k1
  unfold numV at k3
  generalize Nat.testBit 1 (n - 1) = ng at *
  generalize wordL (strS n 1) = wl at *
  rw [show ((1 : Nat) : Int) = 1 from rfl] at *
  have key : (4 * (n : Int) - 8 ≤ s ∧ cutX n s hi lo rest = (2 ^ (n - 1) - 1, 0)) ∨ (¬ 4 * (n : Int) - 8 ≤ s ∧ s < 8 - 4 * (n : Int) ∧ cutX n s hi lo rest = (1, 0)) ∨
      (¬ 4 * (n : Int) - 8 ≤ s ∧ ¬ s < 8 - 4 * (n : Int) ∧ cutX n s hi lo rest = (numOf ((strX s hi lo).take (n - 1)), leftL ((strX s hi lo).drop (n - 1)) rest)) := by
    unfold cutX
    by_cases ct : 4 * (n : Int) - 8 ≤ s
    · exact .inl ⟨ct, by rw [if_pos ct]⟩
    · by_cases cl : s < 8 - 4 * (n : Int)
      · exact .inr (.inl ⟨ct, cl, by rw [if_neg ct, if_pos (.inl cl)]⟩)
      · refine .inr (.inr ⟨ct, cl, ?_⟩)
        by_cases cj : s = 8 - 4 * (n : Int) ∧ justX hi lo rest = true
        · rw [if_neg ct, if_pos (.inr cj)]
          obtain ⟨rfl, hj⟩ := cj
          obtain ⟨a, b⟩ := least_cut n hi lo rest hn hj
          rw [a, b]
        · rw [if_neg ct, if_neg (by rintro (c | c); exact cl c; exact cj c)]
  refine cps fun Q hQ => ?_
  rcases key with ⟨ct, hc⟩ | ⟨ct, cl, hc⟩ | ⟨ct, cl, hc⟩
  · rw [hc] at hQ
    have g1 : decide (4 * (n : Int) - 8 ≤ s) = true := decide_eq_true ct
    generalize 4 * (n : Int) - 8 = tv at *
    generalize 8 - 4 * (n : Int) = lv at *
    generalize 2 ^ (n - 1) - 1 = mv at *
    generalize 2 ^ (n - 1) = nv at *
    unfold exV at *
    clear hc ct hn hs h hw htv
    go_enter Try.func35, Try.ntmps35
    go_wp2_with (first
      | (go_at_call 59; go_must (refine (k1 _).mono ?_); rintro e w1 ⟨rfl, hb1⟩; have R1 := (hb1.block w.heap.size (by simp)).trans (rownew w _ _); have z1 : w.heap.size < w1.heap.size := (by have := hb1.size; simp at this; omega); have hne1 : ¬ w.heap.size = w1.heap.size := (by omega); have hne2 : ¬ w1.heap.size = w.heap.size := (by omega); have b0 := rowcell R1 0; have b1 := rowcell R1 1; have b2 := rowcell R1 2; have b3 := rowcell R1 3; have b4 := rowcell R1 4; have b5 := rowcell R1 5; simp only [List.getElem?_toArray, List.getElem?_cons_zero, List.getElem?_cons_succ] at b0 b1 b2 b3 b4 b5; have HR1 : Hid _ := R1; have HB1 : Hid (Below _ _ _) := hb1; clear hb1 R1)
      | (go_at_call 52; go_must (refine (k2 _).mono ?_); rintro e w2 ⟨rfl, hb2⟩; have R2 := (hb2.block w.heap.size (by simp; omega)).trans ((Below.heap_alloc w1 _ _ z1).trans HR1.out); have S2 := (hb2.block w1.heap.size (by simp)).trans (rownew w1 _ _); have z2 : w1.heap.size < w2.heap.size := (by have := hb2.size; simp at this; omega); have y2 : w.heap.size < w2.heap.size := (Nat.lt_trans z1 z2); have c0 := rowcell R2 0; have c2 := rowcell R2 2; simp only [List.getElem?_toArray, List.getElem?_cons_zero, List.getElem?_cons_succ] at c0 c2; have s1 := rowcell S2 1; have s2 := rowcell S2 2; have s4 := rowcell S2 4; simp only [List.getElem?_toArray, List.getElem?_cons_zero, List.getElem?_cons_succ] at s1 s2 s4; have HR2 : Hid _ := R2; have HS2 : Hid _ := S2; have HB2 : Hid (Below _ _ _) := hb2; clear hb2 R2 S2)
      | (go_at_call 27; go_must (refine (k3 _).mono ?_); rintro e w3 ⟨rfl, hb3⟩; have R3 := (hb3.block w.heap.size y2).trans HR2.out; have S3 := (hb3.block w1.heap.size z2).trans HS2.out; have z3 : w1.heap.size < w3.heap.size := rowlt S3; have y3 : w.heap.size < w3.heap.size := rowlt R3; have d2 := rowcell R3 2; simp only [List.getElem?_toArray, List.getElem?_cons_zero, List.getElem?_cons_succ] at d2; have t1 := rowcell S3 1; have t2 := rowcell S3 2; have t4 := rowcell S3 4; simp only [List.getElem?_toArray, List.getElem?_cons_zero, List.getElem?_cons_succ] at t1 t2 t4; have HB3 : Hid (Below _ _ _) := hb3; clear hb3 R3 S3))
    go_ret3
    exact hQ.out _ _ ⟨rfl, cmore (cthen (cthen (cmore (cthen (cmore (Below.refl _ _) _) HB1.out) _) HB2.out) HB3.out) _⟩
  · rw [hc] at hQ
    have g1 : decide (4 * (n : Int) - 8 ≤ s) = false := decide_eq_false ct
    have g2 : decide (s < 8 - 4 * (n : Int)) = true := decide_eq_true cl
    generalize 4 * (n : Int) - 8 = tv at *
    generalize 8 - 4 * (n : Int) = lv at *
    generalize 2 ^ (n - 1) - 1 = mv at *
    generalize 2 ^ (n - 1) = nv at *
    unfold exV at *
    clear hc ct cl hn hs h hw htv
    go_enter Try.func35, Try.ntmps35
    go_wp2_with (first
      | (go_at_call 59; go_must (refine (k1 _).mono ?_); rintro e w1 ⟨rfl, hb1⟩; have R1 := (hb1.block w.heap.size (by simp)).trans (rownew w _ _); have z1 : w.heap.size < w1.heap.size := (by have := hb1.size; simp at this; omega); have hne1 : ¬ w.heap.size = w1.heap.size := (by omega); have hne2 : ¬ w1.heap.size = w.heap.size := (by omega); have b0 := rowcell R1 0; have b1 := rowcell R1 1; have b2 := rowcell R1 2; have b3 := rowcell R1 3; have b4 := rowcell R1 4; have b5 := rowcell R1 5; simp only [List.getElem?_toArray, List.getElem?_cons_zero, List.getElem?_cons_succ] at b0 b1 b2 b3 b4 b5; have HR1 : Hid _ := R1; have HB1 : Hid (Below _ _ _) := hb1; clear hb1 R1)
      | (go_at_call 52; go_must (refine (k2 _).mono ?_); rintro e w2 ⟨rfl, hb2⟩; have R2 := (hb2.block w.heap.size (by simp; omega)).trans ((Below.heap_alloc w1 _ _ z1).trans HR1.out); have S2 := (hb2.block w1.heap.size (by simp)).trans (rownew w1 _ _); have z2 : w1.heap.size < w2.heap.size := (by have := hb2.size; simp at this; omega); have y2 : w.heap.size < w2.heap.size := (Nat.lt_trans z1 z2); have c0 := rowcell R2 0; have c2 := rowcell R2 2; simp only [List.getElem?_toArray, List.getElem?_cons_zero, List.getElem?_cons_succ] at c0 c2; have s1 := rowcell S2 1; have s2 := rowcell S2 2; have s4 := rowcell S2 4; simp only [List.getElem?_toArray, List.getElem?_cons_zero, List.getElem?_cons_succ] at s1 s2 s4; have HR2 : Hid _ := R2; have HS2 : Hid _ := S2; have HB2 : Hid (Below _ _ _) := hb2; clear hb2 R2 S2)
      | (go_at_call 27; go_must (refine (k3 _).mono ?_); rintro e w3 ⟨rfl, hb3⟩; have R3 := (hb3.block w.heap.size y2).trans HR2.out; have S3 := (hb3.block w1.heap.size z2).trans HS2.out; have z3 : w1.heap.size < w3.heap.size := rowlt S3; have y3 : w.heap.size < w3.heap.size := rowlt R3; have d2 := rowcell R3 2; simp only [List.getElem?_toArray, List.getElem?_cons_zero, List.getElem?_cons_succ] at d2; have t1 := rowcell S3 1; have t2 := rowcell S3 2; have t4 := rowcell S3 4; simp only [List.getElem?_toArray, List.getElem?_cons_zero, List.getElem?_cons_succ] at t1 t2 t4; have HB3 : Hid (Below _ _ _) := hb3; clear hb3 R3 S3))
    go_ret3
    exact hQ.out _ _ ⟨rfl, cmore (cthen (cthen (cmore (cthen (cmore (Below.refl _ _) _) HB1.out) _) HB2.out) HB3.out) _⟩
  · rw [hc] at hQ
    have k4 := rcutstr_any n neg s hi lo rest hn h (by omega) (by omega)
    have g1 : decide (4 * (n : Int) - 8 ≤ s) = false := decide_eq_false ct
    have g2 : decide (s < 8 - 4 * (n : Int)) = false := decide_eq_false cl
    generalize 4 * (n : Int) - 8 = tv at *
    generalize 8 - 4 * (n : Int) = lv at *
    generalize numOf ((strX s hi lo).take (n - 1)) = P at *
    generalize leftL ((strX s hi lo).drop (n - 1)) rest = L at *
    generalize 2 ^ (n - 1) - 1 = mv at *
    generalize 2 ^ (n - 1) = nv at *
    unfold exV at *
    clear hc ct cl hn hs h hw htv
    go_enter Try.func35, Try.ntmps35
    go_wp2_with (first
      | (go_at_call 59; go_must (refine (k1 _).mono ?_); rintro e w1 ⟨rfl, hb1⟩; have R1 := (hb1.block w.heap.size (by simp)).trans (rownew w _ _); have z1 : w.heap.size < w1.heap.size := (by have := hb1.size; simp at this; omega); have hne1 : ¬ w.heap.size = w1.heap.size := (by omega); have hne2 : ¬ w1.heap.size = w.heap.size := (by omega); have b0 := rowcell R1 0; have b1 := rowcell R1 1; have b2 := rowcell R1 2; have b3 := rowcell R1 3; have b4 := rowcell R1 4; have b5 := rowcell R1 5; simp only [List.getElem?_toArray, List.getElem?_cons_zero, List.getElem?_cons_succ] at b0 b1 b2 b3 b4 b5; have HR1 : Hid _ := R1; have HB1 : Hid (Below _ _ _) := hb1; clear hb1 R1)
      | (go_at_call 52; go_must (refine (k2 _).mono ?_); rintro e w2 ⟨rfl, hb2⟩; have R2 := (hb2.block w.heap.size (by simp; omega)).trans ((Below.heap_alloc w1 _ _ z1).trans HR1.out); have S2 := (hb2.block w1.heap.size (by simp)).trans (rownew w1 _ _); have z2 : w1.heap.size < w2.heap.size := (by have := hb2.size; simp at this; omega); have y2 : w.heap.size < w2.heap.size := (Nat.lt_trans z1 z2); have c0 := rowcell R2 0; have c2 := rowcell R2 2; simp only [List.getElem?_toArray, List.getElem?_cons_zero, List.getElem?_cons_succ] at c0 c2; have s1 := rowcell S2 1; have s2 := rowcell S2 2; have s4 := rowcell S2 4; simp only [List.getElem?_toArray, List.getElem?_cons_zero, List.getElem?_cons_succ] at s1 s2 s4; have HR2 : Hid _ := R2; have HS2 : Hid _ := S2; have HB2 : Hid (Below _ _ _) := hb2; clear hb2 R2 S2)
      | (go_at_call 27; go_must (refine (k3 _).mono ?_); rintro e w3 ⟨rfl, hb3⟩; have R3 := (hb3.block w.heap.size y2).trans HR2.out; have S3 := (hb3.block w1.heap.size z2).trans HS2.out; have z3 : w1.heap.size < w3.heap.size := rowlt S3; have y3 : w.heap.size < w3.heap.size := rowlt R3; have d0 := rowcell R3 0; have d1 := rowcell R3 1; have d2 := rowcell R3 2; have d3 := rowcell R3 3; have d4 := rowcell R3 4; have d5 := rowcell R3 5; simp only [List.getElem?_toArray, List.getElem?_cons_zero, List.getElem?_cons_succ] at d0 d1 d2 d3 d4 d5; have t1 := rowcell S3 1; have t2 := rowcell S3 2; have t4 := rowcell S3 4; simp only [List.getElem?_toArray, List.getElem?_cons_zero, List.getElem?_cons_succ] at t1 t2 t4; have HB3 : Hid (Below _ _ _) := hb3; clear hb3 R3 S3)
      | (go_at_call 60; go_must (refine (k4 _).mono ?_); rintro e w4 ⟨rfl, hb4⟩; have HB4 : Hid (Below _ _ _) := hb4; clear hb4))
    go_ret3
    exact hQ.out _ _ ⟨rfl, cthen (cmore (cthen (cthen (cmore (cthen (cmore (Below.refl _ _) _) HB1.out) _) HB2.out) HB3.out) _) HB4.out⟩
end Go.Proofs.Ytheliihkkoohnaa

namespace Go.Proofs.Ytheliihkkoohnaa
open Go.ChangeShapes Go.WideShapes Go.ChangeAt Go.RowKit
set_option linter.unusedVariables false
set_option linter.unusedSimpArgs false
set_option maxRecDepth 100000

/-! ### Of -/
theorem rndof_bad (k : Int) (neg : Bool) (s : Int) (f : Nat) (hf : f < 2 ^ 64) (hs : soundN k neg s f = false) (w : World) :
    Calls Try.prog 28 #[numV k neg s f] w fun e w' => e = .returned (.tuple #[exV 0 false 0 0 0 false, codeV 1]) ∧ Below w.heap.size w w' := by
  have k2 := rsound_any k neg s f 0 false 1073741824 hf (by decide)
  rw [soundF_N, hs] at k2
  unfold numV exV at *
  rw [show ((0 : Nat) : Int) = 0 from rfl] at *
  clear hs
  refine cps fun Q hQ => ?_
  go_enter Try.func28, Try.ntmps28
  go_wp2_with (go_at_call 52; refine (k2 _).mono ?_; rintro e w2 ⟨rfl, hb2⟩; have RR := (hb2.block (w.heap.size + 1) (by simp)).trans ((Below.heap_alloc ((w.alloc _).alloc _) _ _ (by simp)).trans (rownew' _ _ _ _ (by simp))); have r0 := rowcell RR 0; have r1 := rowcell RR 1; have r2 := rowcell RR 2; have r3 := rowcell RR 3; have r4 := rowcell RR 4; have r5 := rowcell RR 5; have rf := rowfree RR; simp only [List.getElem?_toArray, List.getElem?_cons_zero, List.getElem?_cons_succ] at r0 r1 r2 r3 r4 r5; have HB2 : Hid (Below _ _ _) := cthen (cmore (cmore (cmore (Below.refl _ _) _) _) _) hb2; clear hb2 RR)
  refine bodyPost_ret (v := .tuple #[.agg #[.int .i64 0, .bool false, .int .i64 0, .int .u64 0, .int .u64 0, .bool false], codeV 1]) (by simp [results, Try.results28, go_sem, r0, r1, r2, r3, r4, r5]) rfl (hQ.out _ _ ⟨rfl, ?_⟩)
  have hle : w.heap.size ≤ w.heap.size + 1 := by omega
  exact cset (cset (cset (cset (cset (cset HB2.out hle _ _) hle _ _) hle _ _) hle _ _) hle _ _) hle _ _
theorem rndof_ok (k : Int) (neg : Bool) (s : Int) (f : Nat) (hf : f < 2 ^ 64) (hs : soundN k neg s f = true) (w : World) :
    Calls Try.prog 28 #[numV k neg s f] w fun e w' => e = .returned (.tuple #[exV k neg s f 0 false, .nilIface]) ∧ Below w.heap.size w w' := by
  have k2 := rsound_any k neg s f 0 false 1073741824 hf (by decide)
  rw [soundF_N, hs] at k2
  unfold numV exV at *
  rw [show ((0 : Nat) : Int) = 0 from rfl] at *
  clear hs
  refine cps fun Q hQ => ?_
  go_enter Try.func28, Try.ntmps28
  go_wp2_with (go_at_call 52; refine (k2 _).mono ?_; rintro e w2 ⟨rfl, hb2⟩; have RR := (hb2.block (w.heap.size + 1) (by simp)).trans ((Below.heap_alloc ((w.alloc _).alloc _) _ _ (by simp)).trans (rownew' _ _ _ _ (by simp))); have r0 := rowcell RR 0; have r1 := rowcell RR 1; have r2 := rowcell RR 2; have r3 := rowcell RR 3; have r4 := rowcell RR 4; have r5 := rowcell RR 5; have rf := rowfree RR; simp only [List.getElem?_toArray, List.getElem?_cons_zero, List.getElem?_cons_succ] at r0 r1 r2 r3 r4 r5; have RY := (hb2.block (w.heap.size + 2) (by simp)).trans (rownew' _ _ _ _ (by simp)); have y0 := rowcell RY 0; have y1 := rowcell RY 1; have y2 := rowcell RY 2; have y3 := rowcell RY 3; have y4 := rowcell RY 4; have y5 := rowcell RY 5; simp only [List.getElem?_toArray, List.getElem?_cons_zero, List.getElem?_cons_succ] at y0 y1 y2 y3 y4 y5; have HB2 : Hid (Below _ _ _) := cthen (cmore (cmore (cmore (Below.refl _ _) _) _) _) hb2; clear hb2 RR RY)
  refine bodyPost_ret (v := .tuple #[.agg #[.int .i64 k, .bool neg, .int .i64 s, .int .u64 f, .int .u64 0, .bool false], .nilIface]) (by simp [results, Try.results28, go_sem, r0, r1, r2, r3, r4, r5]) rfl (hQ.out _ _ ⟨rfl, ?_⟩)
  have hle : w.heap.size ≤ w.heap.size + 1 := by omega
  exact cset (cset (cset (cset (cset (cset HB2.out hle _ _) hle _ _) hle _ _) hle _ _) hle _ _) hle _ _
/-! ### Round -/
theorem rround_err (n : Int) (k : Int) (neg : Bool) (s : Int) (hi lo : Nat) (rest : Bool) (c : Int) (w : World)
    (k1 : ∀ w, Calls Try.prog 35 #[.int .i64 n, exV k neg s hi lo rest] w fun e w' => e = .returned (.tuple #[.int .u64 0, .int .i64 0, codeV c]) ∧ Below w.heap.size w w') :
    Calls Try.prog 21 #[.int .i64 n, exV k neg s hi lo rest] w fun e w' => e = .returned (.tuple #[.int .u64 0, codeV c]) ∧ Below w.heap.size w w' := by
  unfold exV at *
  refine cps fun Q hQ => ?_
  go_enter Try.func21, Try.ntmps21
  go_wp2_with (go_at_call 35; refine (k1 _).mono ?_; rintro e w2 ⟨rfl, hb2⟩)
  exact hQ.out _ _ ⟨rfl, cthen (cmore (Below.refl _ _) _) hb2⟩
theorem rround_no (n : Int) (k : Int) (neg : Bool) (s : Int) (hi lo : Nat) (rest : Bool) (hh : hi < 2 ^ 64) (hl : lo < 2 ^ 64) (hn : isW n = false) (w : World) :
    Calls Try.prog 21 #[.int .i64 n, exV k neg s hi lo rest] w fun e w' => e = .returned (.tuple #[.int .u64 0, codeV 2]) ∧ Below w.heap.size w w' :=
  rround_err n k neg s hi lo rest 2 w (rcut_no n k neg s hi lo rest hh hl hn)
theorem rround_bad (n : Nat) (k : Int) (neg : Bool) (s : Int) (hi lo : Nat) (rest : Bool) (hn : Wd n) (hh : hi < 2 ^ 64) (hl : lo < 2 ^ 64) (hs : soundX k neg s hi lo rest = false) (w : World) :
    Calls Try.prog 21 #[.int .i64 n, exV k neg s hi lo rest] w fun e w' => e = .returned (.tuple #[.int .u64 0, codeV 1]) ∧ Below w.heap.size w w' :=
  rround_err n k neg s hi lo rest 1 w (rcut_bad n k neg s hi lo rest hn hh hl hs)
theorem rround_plain (n : Int) (k : Int) (P : Nat) (w : World)
    (k1 : ∀ w, Calls Try.prog 35 #[.int .i64 n, exV k false 0 0 0 false] w fun e w' => e = .returned (.tuple #[.int .u64 P, .int .i64 0, .nilIface]) ∧ Below w.heap.size w w') :
    Calls Try.prog 21 #[.int .i64 n, exV k false 0 0 0 false] w fun e w' => e = .returned (.tuple #[.int .u64 P, .nilIface]) ∧ Below w.heap.size w w' := by
  unfold exV at *
  refine cps fun Q hQ => ?_
  go_enter Try.func21, Try.ntmps21
  go_wp2_with (go_at_call 35; refine (k1 _).mono ?_; rintro e w2 ⟨rfl, hb2⟩; have hc := fun b o h => hb2.cell (p := ⟨b, o, none⟩) h; have z1 : w.heap.size < w2.heap.size := (by have := hb2.size; simp at this; omega))
  exact hQ.out _ _ ⟨rfl, cthen (cmore (Below.refl _ _) _) hb2⟩
theorem rround_zero (n : Nat) (hn : Wd n) (w : World) :
    Calls Try.prog 21 #[.int .i64 n, exV 0 false 0 0 0 false] w fun e w' => e = .returned (.tuple #[.int .u64 0, .nilIface]) ∧ Below w.heap.size w w' :=
  rround_plain n 0 0 w (rcut_zero n hn)
theorem rround_nar (n : Nat) (hn : Wd n) (w : World) :
    Calls Try.prog 21 #[.int .i64 n, exV 2 false 0 0 0 false] w fun e w' => e = .returned (.tuple #[.int .u64 (2 ^ (n - 1) : Nat), .nilIface]) ∧ Below w.heap.size w w' :=
  rround_plain n 2 (2 ^ (n - 1)) w (rcut_nar n hn)
set_option maxHeartbeats 2000000 in
theorem rround_real (n : Nat) (neg : Bool) (s : Int) (hi lo : Nat) (rest : Bool) (hn : Wd n) (hs : soundX 1 neg s hi lo rest = true) (h : WordsX hi lo) (w : World) :
    Calls Try.prog 21 #[.int .i64 n, exV 1 neg s hi lo rest] w fun e w' => e = .returned (.tuple #[.int .u64 (patR n neg (rndX n s hi lo rest)), .nilIface]) ∧ Below w.heap.size w w' := by
  have k1 := rcut_real n neg s hi lo rest hn hs h
  obtain ⟨r1, r2⟩ := rnd_range n s hi lo rest hn h
  obtain ⟨H, e1, e2, e3, _⟩ := wd_pows hn
  have hw := wd_le hn
  have hH : H ≤ 2 ^ 63 := by rw [← e2]; exact Nat.pow_le_pow_right (by decide) (by omega)
  have k2 := fold_ok n (minusU (rndX n s hi lo rest)) hn (minusU_lt _)
  have hneg : minusU (rndX n s hi lo rest) % 2 ^ n = 2 ^ n - rndX n s hi lo rest := by
    rw [minusU_mod n _ hn (by omega), Nat.mod_eq_of_lt (a := rndX n s hi lo rest) (by omega), Nat.mod_eq_of_lt (by omega)]
  rw [hneg] at k2
  have hmw := minusU_wrap (rndX n s hi lo rest) (by omega)
  have HR : Hid (rndX n s hi lo rest = roundP (cutX n s hi lo rest).1 (cutX n s hi lo rest).2) := rfl
  have hle := (roundP_le (cutX n s hi lo rest).1 (cutX n s hi lo rest).2).1
  have hle2 : (cutX n s hi lo rest).1 ≤ rndX n s hi lo rest := hle
  unfold patR
  generalize 2 ^ n - rndX n s hi lo rest = M at *
  generalize minusU (rndX n s hi lo rest) = U at *
  generalize (cutX n s hi lo rest).1 = P at *
  generalize (cutX n s hi lo rest).2 = l at *
  generalize rndX n s hi lo rest = R at *
  unfold exV at *
  rw [e2] at r2
  have hR63 : R < 2 ^ 63 := by omega
  clear hn hs h hneg e1 e2 e3 hle r2 hH
  have hup : (l = 3 ∨ (l = 2 ∧ P % 2 = 1)) → P + 1 = R := fun c => by rw [HR.out]; unfold roundP; rw [if_pos c]
  have hst : ¬ (l = 3 ∨ (l = 2 ∧ P % 2 = 1)) → P = R := fun c => by rw [HR.out]; unfold roundP; rw [if_neg c]
  have ew : IntKind.u64.wrap ((P : Int) + 1) = (P : Int) + 1 := by rw [IntKind.wrap_u64]; omega
  refine cps fun Q hQ => ?_
  by_cases c : l = 3 ∨ (l = 2 ∧ P % 2 = 1)
  · have hP := hup c
    have hc2 : ((P : Int) + 1) = (R : Int) := by omega
    have ew2 : IntKind.u64.wrap ((P : Int) + 1) = (R : Int) := by rw [ew, hc2]
    clear hup hst hP hc2 ew
    rcases c with rfl | ⟨rfl, c⟩
    · cases neg
      · go_enter Try.func21, Try.ntmps21
        go_wp2_with (first
          | (go_at_call 35; refine (k1 _).mono ?_; rintro e w2 ⟨rfl, hb2⟩; have a1 := ((hb2.cell (p := ⟨w.heap.size, 1, none⟩) (by simp)).trans (rowcell (rownew w _ _) 1)); simp only [List.getElem?_toArray, List.getElem?_cons_zero, List.getElem?_cons_succ] at a1; have z1 : w.heap.size < w2.heap.size := (by have := hb2.size; simp at this; omega)))
        exact hQ.out _ _ ⟨rfl, cthen (cmore (Below.refl _ _) _) hb2⟩
      · go_enter Try.func21, Try.ntmps21
        go_wp2_with (first
          | (go_at_call 35; refine (k1 _).mono ?_; rintro e w2 ⟨rfl, hb2⟩; have a1 := ((hb2.cell (p := ⟨w.heap.size, 1, none⟩) (by simp)).trans (rowcell (rownew w _ _) 1)); simp only [List.getElem?_toArray, List.getElem?_cons_zero, List.getElem?_cons_succ] at a1; have z1 : w.heap.size < w2.heap.size := (by have := hb2.size; simp at this; omega))
          | (go_at_call 36; refine (k2 _).mono ?_; rintro e w4 ⟨rfl, hb4⟩))
        exact hQ.out _ _ ⟨rfl, cthen (cthen (cmore (Below.refl _ _) _) hb2) hb4⟩
    · have m2 : (Int.tmod (P : Int) 2) = (P : Int) % 2 := Int.tmod_eq_emod_of_nonneg (by omega)
      have m3 : (P : Int) % 2 = 1 := by omega
      clear c
      cases neg
      · go_enter Try.func21, Try.ntmps21
        go_wp2_with (first
          | (go_at_call 35; refine (k1 _).mono ?_; rintro e w2 ⟨rfl, hb2⟩; have a1 := ((hb2.cell (p := ⟨w.heap.size, 1, none⟩) (by simp)).trans (rowcell (rownew w _ _) 1)); simp only [List.getElem?_toArray, List.getElem?_cons_zero, List.getElem?_cons_succ] at a1; have z1 : w.heap.size < w2.heap.size := (by have := hb2.size; simp at this; omega)))
        exact hQ.out _ _ ⟨rfl, cthen (cmore (Below.refl _ _) _) hb2⟩
      · go_enter Try.func21, Try.ntmps21
        go_wp2_with (first
          | (go_at_call 35; refine (k1 _).mono ?_; rintro e w2 ⟨rfl, hb2⟩; have a1 := ((hb2.cell (p := ⟨w.heap.size, 1, none⟩) (by simp)).trans (rowcell (rownew w _ _) 1)); simp only [List.getElem?_toArray, List.getElem?_cons_zero, List.getElem?_cons_succ] at a1; have z1 : w.heap.size < w2.heap.size := (by have := hb2.size; simp at this; omega))
          | (go_at_call 36; refine (k2 _).mono ?_; rintro e w4 ⟨rfl, hb4⟩))
        exact hQ.out _ _ ⟨rfl, cthen (cthen (cmore (Below.refl _ _) _) hb2) hb4⟩
  · have hP := hst c
    subst hP
    clear hup hst
    have d3 : ((l : Int) == 3) = false := beq_eq_false_iff_ne.2 (by omega)
    by_cases h2 : l = 2
    · subst h2
      have m3 : (P : Int) % 2 = 0 := by omega
      have m2 : (Int.tmod (P : Int) 2) = (P : Int) % 2 := Int.tmod_eq_emod_of_nonneg (by omega)
      clear c
      cases neg
      · go_enter Try.func21, Try.ntmps21
        go_wp2_with (first
          | (go_at_call 35; refine (k1 _).mono ?_; rintro e w2 ⟨rfl, hb2⟩; have a1 := ((hb2.cell (p := ⟨w.heap.size, 1, none⟩) (by simp)).trans (rowcell (rownew w _ _) 1)); simp only [List.getElem?_toArray, List.getElem?_cons_zero, List.getElem?_cons_succ] at a1; have z1 : w.heap.size < w2.heap.size := (by have := hb2.size; simp at this; omega)))
        exact hQ.out _ _ ⟨rfl, cthen (cmore (Below.refl _ _) _) hb2⟩
      · go_enter Try.func21, Try.ntmps21
        go_wp2_with (first
          | (go_at_call 35; refine (k1 _).mono ?_; rintro e w2 ⟨rfl, hb2⟩; have a1 := ((hb2.cell (p := ⟨w.heap.size, 1, none⟩) (by simp)).trans (rowcell (rownew w _ _) 1)); simp only [List.getElem?_toArray, List.getElem?_cons_zero, List.getElem?_cons_succ] at a1; have z1 : w.heap.size < w2.heap.size := (by have := hb2.size; simp at this; omega))
          | (go_at_call 36; refine (k2 _).mono ?_; rintro e w4 ⟨rfl, hb4⟩))
        exact hQ.out _ _ ⟨rfl, cthen (cthen (cmore (Below.refl _ _) _) hb2) hb4⟩
    · have d2 : ((l : Int) == 2) = false := beq_eq_false_iff_ne.2 (by omega)
      clear c h2
      cases neg
      · go_enter Try.func21, Try.ntmps21
        go_wp2_with (first
          | (go_at_call 35; refine (k1 _).mono ?_; rintro e w2 ⟨rfl, hb2⟩; have a1 := ((hb2.cell (p := ⟨w.heap.size, 1, none⟩) (by simp)).trans (rowcell (rownew w _ _) 1)); simp only [List.getElem?_toArray, List.getElem?_cons_zero, List.getElem?_cons_succ] at a1; have z1 : w.heap.size < w2.heap.size := (by have := hb2.size; simp at this; omega)))
        exact hQ.out _ _ ⟨rfl, cthen (cmore (Below.refl _ _) _) hb2⟩
      · go_enter Try.func21, Try.ntmps21
        go_wp2_with (first
          | (go_at_call 35; refine (k1 _).mono ?_; rintro e w2 ⟨rfl, hb2⟩; have a1 := ((hb2.cell (p := ⟨w.heap.size, 1, none⟩) (by simp)).trans (rowcell (rownew w _ _) 1)); simp only [List.getElem?_toArray, List.getElem?_cons_zero, List.getElem?_cons_succ] at a1; have z1 : w.heap.size < w2.heap.size := (by have := hb2.size; simp at this; omega))
          | (go_at_call 36; refine (k2 _).mono ?_; rintro e w4 ⟨rfl, hb4⟩))
        exact hQ.out _ _ ⟨rfl, cthen (cthen (cmore (Below.refl _ _) _) hb2) hb4⟩
end Go.Proofs.Ytheliihkkoohnaa

namespace Go.Proofs.Ytheliihkkoohnaa
open Go.ChangeShapes Go.WideShapes Go.ChangeAt Go.RowKit
set_option linter.unusedVariables false
set_option linter.unusedSimpArgs false
set_option maxRecDepth 100000

/-! ### package sum: two reals held against each other, their signs apart -/
def cmpZ (x y : Int) : Int := if x < y then -1 else if y < x then 1 else 0
theorem mnan_any (x : Int) (w : World) : Calls Try.prog 103 #[.int .i64 x] w fun e w' => e = .returned (.bool false) ∧ w' = w := by
  refine cps fun Q hQ => ?_
  go_enter Try.func103, Try.ntmps103
  go_wp2
  exact hQ.out _ _ ⟨by simp, rfl⟩
theorem mcompare_any (x y : Int) (w : World) : Calls Try.prog 64 #[.int .i64 x, .int .i64 y] w fun e w' => e = .returned (.int .i64 (cmpZ x y)) ∧ w' = w := by
  refine cps fun Q hQ => ?_
  have hE : (x < y ∧ cmpZ x y = -1) ∨ (y < x ∧ cmpZ x y = 1) ∨ (x = y ∧ cmpZ x y = 0) := by
    unfold cmpZ; split
    · exact .inl ⟨by assumption, rfl⟩
    · split
      · exact .inr (.inl ⟨by assumption, rfl⟩)
      · exact .inr (.inr ⟨by omega, rfl⟩)
  rcases hE with ⟨h, hE⟩ | ⟨h, hE⟩ | ⟨rfl, hE⟩
  · have d1 : decide (x < y) = true := decide_eq_true h
    rw [hE] at hQ
    clear h hE
    go_enter Try.func64, Try.ntmps64
    go_wp2_with (go_at_call 103; refine (mnan_any _ _).mono ?_; rintro e w' ⟨rfl, hw⟩; rw [hw]; clear hw w')
    exact hQ.out _ _ ⟨rfl, rfl⟩
  · have d1 : decide (x < y) = false := decide_eq_false (by omega)
    have d2 : decide (y < x) = true := decide_eq_true h
    rw [hE] at hQ
    clear h hE
    go_enter Try.func64, Try.ntmps64
    go_wp2_with (go_at_call 103; refine (mnan_any _ _).mono ?_; rintro e w' ⟨rfl, hw⟩; rw [hw]; clear hw w')
    exact hQ.out _ _ ⟨rfl, rfl⟩
  · have d1 : decide (x < x) = false := decide_eq_false (by omega)
    rw [hE] at hQ
    clear hE
    go_enter Try.func64, Try.ntmps64
    go_wp2_with (go_at_call 103; refine (mnan_any _ _).mono ?_; rintro e w' ⟨rfl, hw⟩; rw [hw]; clear hw w')
    exact hQ.out _ _ ⟨rfl, rfl⟩
/-- below 0 just where the second is the greater -/
def cmpR2 (s : Int) (f : Nat) (s' : Int) (g : Nat) : Int := if cmpZ s s' = 0 then cmpN f g else cmpZ s s'
theorem cmpR2_lt (s : Int) (f : Nat) (s' : Int) (g : Nat) : cmpR2 s f s' g < 0 ↔ s < s' ∨ (s = s' ∧ f < g) := by
  unfold cmpR2 cmpZ cmpN
  repeat' split
  all_goals constructor <;> intro h <;> omega
set_option maxHeartbeats 2000000 in
theorem scompare_any (k : Int) (neg : Bool) (s : Int) (f : Nat) (k' : Int) (neg' : Bool) (s' : Int) (g : Nat) (w : World) :
    Calls Try.prog 89 #[numV k neg s f, numV k' neg' s' g] w fun e w' => e = .returned (.int .i64 (cmpR2 s f s' g)) ∧ Below w.heap.size w w' := by
  unfold cmpR2 numV at *
  refine cps fun Q hQ => ?_
  obtain ⟨x, hx⟩ : ∃ x, x = cmpZ s s' := ⟨_, rfl⟩
  obtain ⟨y, hy⟩ : ∃ x, x = cmpN f g := ⟨_, rfl⟩
  have r1 := mcompare_any s s'
  have r2 := compare_any f g
  rw [← hx] at r1 hQ
  rw [← hy] at r2 hQ
  obtain ⟨z, hz⟩ : ∃ z, z = if x = 0 then y else x := ⟨_, rfl⟩
  rw [← hz] at hQ
  have HZ : Hid (z = if x = 0 then y else x) := hz
  clear hx hy hz
  go_enter Try.func89, Try.ntmps89
  go_wp2
  refine wpC_region (fun W => W.cell? ⟨w.heap.size, 2, none⟩ = some (.int .i64 s) ∧ W.cell? ⟨w.heap.size, 3, none⟩ = some (.int .u64 f) ∧ W.cell? ⟨w.heap.size + 1, 2, none⟩ = some (.int .i64 s') ∧ W.cell? ⟨w.heap.size + 1, 3, none⟩ = some (.int .u64 g)) (by kernel_rfl) ?_
  refine wpC_take 0 (v := ?_) rfl (by kernel_rfl) (fun _ _ _ h => h) (by kernel_rfl) ?_ ?_; rotate_left; · (intro wC hC; obtain ⟨c1, c2, c3, c4⟩ := hC; go_simp <;> with_reducible rfl)
  refine wpC_take 1 (v := ?_) rfl (by kernel_rfl) (fun _ _ _ h => h) (by kernel_rfl) ?_ ?_; rotate_left; · (intro wC hC; obtain ⟨c1, c2, c3, c4⟩ := hC; go_simp <;> with_reducible rfl)
  refine wpC_take 2 (v := ?_) rfl (by kernel_rfl) (fun _ _ _ h => h) (by kernel_rfl) ?_ ?_; rotate_left; · (intro wC hC; obtain ⟨c1, c2, c3, c4⟩ := hC; go_simp <;> with_reducible rfl)
  refine wpC_take 3 (v := ?_) rfl (by kernel_rfl) (fun _ _ _ h => h) (by kernel_rfl) ?_ ?_; rotate_left; · (intro wC hC; obtain ⟨c1, c2, c3, c4⟩ := hC; go_simp <;> with_reducible rfl)
  refine wpC_take 5 (v := ?_) rfl (by kernel_rfl) (fun _ _ _ h => h) (by kernel_rfl) ?_ ?_; rotate_left; · (intro wC hC; obtain ⟨c1, c2, c3, c4⟩ := hC; go_simp <;> with_reducible rfl)
  refine wpC_take 6 (v := ?_) rfl (by kernel_rfl) (fun _ _ _ h => h) (by kernel_rfl) ?_ ?_; rotate_left; · (intro wC hC; obtain ⟨c1, c2, c3, c4⟩ := hC; go_simp <;> with_reducible rfl)
  refine wpC_take 7 (v := ?_) rfl (by kernel_rfl) (fun _ _ _ h => h) (by kernel_rfl) ?_ ?_; rotate_left; · (intro wC hC; obtain ⟨c1, c2, c3, c4⟩ := hC; go_simp <;> with_reducible rfl)
  refine wpC_take 8 (v := ?_) rfl (by kernel_rfl) (fun _ _ _ h => h) (by kernel_rfl) ?_ ?_; rotate_left; · (intro wC hC; obtain ⟨c1, c2, c3, c4⟩ := hC; go_simp <;> with_reducible rfl)
  refine wpC_step 4 rfl (by kernel_rfl) (by kernel_rfl) (by simp [go_sem]) (fun K hK => ?_)
  go_simp
  go_wp2_with ((go_at_call 64; refine (r1 _).mono ?_; rintro e w' ⟨rfl, hw⟩; rw [hw]; clear hw w'))
  try (refine hK _ _ ?_; clear hK K)
  refine wpC_step 9 rfl (by kernel_rfl) (by kernel_rfl) (by simp [go_sem]) (fun K hK => ?_)
  go_simp
  go_wp2_with ((go_at_call 104; refine (r2 _).mono ?_; rintro e w' ⟨rfl, hw⟩; rw [hw]; clear hw w'))
  try (refine hK _ _ ?_; clear hK K)
  refine wpC_step 10 rfl (by kernel_rfl) (by kernel_rfl) (by simp [go_sem]) (fun K hK => ?_)
  go_simp
  try (refine hK _ _ ?_; clear hK K)
  refine wpC_step 11 rfl (by kernel_rfl) (by kernel_rfl) (by simp [go_sem]) (fun K hK => ?_)
  go_simp
  go_wp2_with ((go_at_call 63; refine (or_any' x y z HZ.out _ _ (drew_at _ _ _ _ 0 (by simp)) (drew_at _ _ _ _ 1 (by simp))).mono ?_; rintro e w' ⟨rfl, hw⟩; rw [hw]; clear hw w'))
  try (refine hK _ _ ?_; clear hK K)
  refine wpC_step 12 rfl (by kernel_rfl) (by kernel_rfl) (by simp [go_sem]) (fun K hK => ?_)
  go_simp
  try (refine hK _ _ ?_; clear hK K)
  refine wpC_done (by kernel_rfl) (by simp [go_sem]) ?_
  go_wp2
  refine hQ.out _ _ ⟨rfl, ?_⟩
  exact (bmore (bmore (bmore (Below.refl _ _) _) _) _).drew
end Go.Proofs.Ytheliihkkoohnaa

namespace Go.Proofs.Ytheliihkkoohnaa
open Go.ChangeShapes Go.WideShapes Go.ChangeAt Go.RowKit
set_option linter.unusedVariables false
set_option linter.unusedSimpArgs false
set_option maxRecDepth 100000

/-! ### numbers of 256 bits, the lowest word first -/
def wdV (a b c d : Nat) : Value := .agg #[.int .u64 a, .int .u64 b, .int .u64 c, .int .u64 d]
/-- a word times 2^k, laid into four words -/
theorem splaced_at (f : Nat) (k q r h l : Nat) (u0 u1 u2 u3 : Nat) (hr : r ≤ 63) (hk : k = 64 * q + r) (hs : Tw (f * 2 ^ r) h l) (hf : f ≤ 18446744073709551615)
    (hq : (q = 0 ∧ l = u0 ∧ h = u1 ∧ u2 = 0 ∧ u3 = 0) ∨ (q = 1 ∧ u0 = 0 ∧ l = u1 ∧ h = u2 ∧ u3 = 0) ∨ (q = 2 ∧ u0 = 0 ∧ u1 = 0 ∧ l = u2 ∧ h = u3)) (w : World) :
    Calls Try.prog 90 #[.int .u64 f, .int .i64 k] w fun e w' => e = .returned (wdV u0 u1 u2 u3) ∧ Below w.heap.size w w' := by
  have k1 := tshl_any (a := f) (h1 := 0) (l1 := f) (c := false) r (by omega) ⟨by omega, by omega, hf⟩ ((Nat.mod_eq_of_lt hs.lt).symm ▸ hs) (by rw [decide_eq_false (by have := hs.lt; omega)])
  have m1 : Int.tmod (k : Int) 64 = (r : Int) := by rw [Int.tmod_eq_emod_of_nonneg (by omega)]; omega
  have m2 : Int.tdiv (k : Int) 64 = (q : Int) := by rw [Int.tdiv_eq_ediv_of_nonneg (by omega)]; omega
  have m3 : (k : Int) % 64 = (r : Int) := by omega
  have m4 : (k : Int) / 64 = (q : Int) := by omega
  rw [show ((0 : Nat) : Int) = 0 from rfl] at k1
  clear hs hk hf hr
  have v0 : IntKind.i64.wrap 0 = 0 := rfl
  have v1 : IntKind.i64.wrap 1 = 1 := rfl
  have v2 : IntKind.i64.wrap 2 = 2 := rfl
  have v3 : IntKind.i64.wrap 3 = 3 := rfl
  unfold wdV
  refine cps fun Q hQ => ?_
  rcases hq with ⟨rfl, rfl, rfl, rfl, rfl⟩ | ⟨rfl, rfl, rfl, rfl, rfl⟩ | ⟨rfl, rfl, rfl, rfl, rfl⟩
  all_goals
    go_enter Try.func90, Try.ntmps90
    go_wp2_with (go_at_call 66; go_must (refine (k1 _).mono ?_); rintro e w1 ⟨rfl, hb1⟩; have HB1 : Hid (Below _ _ _) := hb1; have R0 := (hb1.block w.heap.size (by simp)).trans (rownew w _ _); have HR0 : Hid _ := R0; have z1 : w.heap.size < w1.heap.size := (by have := hb1.size; simp at this; omega); clear hb1 R0)
    have y0 := rowcell (rownew' (w1.alloc (.cells #[.int .u64 h, .int .u64 l] 69)) #[.int .u64 0, .int .u64 0, .int .u64 0, .int .u64 0] 129 (w1.heap.size + 1) (by simp))
    have X0 := (Below.heap_alloc (w1.alloc (.cells #[.int .u64 h, .int .u64 l] 69)) (.cells #[.int .u64 0, .int .u64 0, .int .u64 0, .int .u64 0] 129) w1.heap.size (by simp)).trans (rownew w1 _ _)
    have x0 := rowcell X0 0
    have x1 := rowcell X0 1
    simp only [List.getElem?_toArray, List.getElem?_cons_zero, List.getElem?_cons_succ] at x0 x1
    refine wpC_region (fun W => W.cell? ⟨w1.heap.size, 0, none⟩ = some (.int .u64 h) ∧ W.cell? ⟨w1.heap.size, 1, none⟩ = some (.int .u64 l)) (by kernel_rfl) ?_
    refine wpC_take 0 (v := ?_) rfl (by kernel_rfl) (fun _ _ _ h => h) (by kernel_rfl) ?_ ?_; rotate_left; · (intro wC hC; obtain ⟨c0, c1⟩ := hC; go_simp <;> with_reducible rfl)
    refine wpC_take 1 (v := ?_) rfl (by kernel_rfl) (fun _ _ _ h => h) (by kernel_rfl) ?_ ?_; rotate_left; · (intro wC hC; obtain ⟨c0, c1⟩ := hC; go_simp <;> with_reducible rfl)
    refine wpC_take 2 (v := ?_) rfl (by kernel_rfl) (fun _ _ _ h => h) (by kernel_rfl) ?_ ?_; rotate_left; · (intro wC hC; obtain ⟨c0, c1⟩ := hC; go_simp <;> with_reducible rfl)
    refine wpC_take 3 (v := ?_) rfl (by kernel_rfl) (fun _ _ _ h => h) (by kernel_rfl) ?_ ?_; rotate_left; · (intro wC hC; obtain ⟨c0, c1⟩ := hC; go_simp <;> with_reducible rfl)
    refine wpC_take 4 (v := ?_) rfl (by kernel_rfl) (fun _ _ _ h => h) (by kernel_rfl) ?_ ?_; rotate_left; · (intro wC hC; obtain ⟨c0, c1⟩ := hC; go_simp <;> with_reducible rfl)
    refine wpC_take 5 (v := ?_) rfl (by kernel_rfl) (fun _ _ _ h => h) (by kernel_rfl) ?_ ?_; rotate_left; · (intro wC hC; obtain ⟨c0, c1⟩ := hC; go_simp <;> with_reducible rfl)
    refine wpC_take 6 (v := ?_) rfl (by kernel_rfl) (fun _ _ _ h => h) (by kernel_rfl) ?_ ?_; rotate_left; · (intro wC hC; obtain ⟨c0, c1⟩ := hC; go_simp <;> with_reducible rfl)
    refine wpC_take 7 (v := ?_) rfl (by kernel_rfl) (fun _ _ _ h => h) (by kernel_rfl) ?_ ?_; rotate_left; · (intro wC hC; obtain ⟨c0, c1⟩ := hC; go_simp <;> with_reducible rfl)
    refine wpC_take 8 (v := ?_) rfl (by kernel_rfl) (fun _ _ _ h => h) (by kernel_rfl) ?_ ?_; rotate_left; · (intro wC hC; obtain ⟨c0, c1⟩ := hC; go_simp <;> with_reducible rfl)
    refine wpC_take 9 (v := ?_) rfl (by kernel_rfl) (fun _ _ _ h => h) (by kernel_rfl) ?_ ?_; rotate_left; · (intro wC hC; obtain ⟨c0, c1⟩ := hC; go_simp <;> with_reducible rfl)
    refine wpC_step 10 rfl (by kernel_rfl) (by kernel_rfl) ⟨x0, x1⟩ (fun K hK => ?_)
    go_simp
    try (refine hK _ _ ?_; clear hK K)
    refine wpC_take 11 (v := ?_) rfl (by kernel_rfl) (fun _ _ _ h => h) (by kernel_rfl) ?_ ?_; rotate_left; · (intro wC hC; obtain ⟨c0, c1⟩ := hC; go_simp <;> with_reducible rfl)
    refine wpC_step 12 rfl (by kernel_rfl) (by kernel_rfl) (by simp [go_sem, x0, x1]) (fun K hK => ?_)
    go_simp
    try (refine hK _ _ ?_; clear hK K)
    refine wpC_done (by kernel_rfl) (by simp [go_sem, x0, x1]) ?_
    have b0 := rowcell HR0.out 0
    have b1 := rowcell HR0.out 1
    have b2 := rowcell HR0.out 2
    have b3 := rowcell HR0.out 3
    have bf := rowfree HR0.out
    have n1 : ¬ w.heap.size = w1.heap.size := by omega
    have n2 : ¬ w.heap.size = w1.heap.size + 1 := by omega
    simp only [List.getElem?_toArray, List.getElem?_cons_zero, List.getElem?_cons_succ] at b0 b1 b2 b3
    go_wp2
    refine bodyPost_ret (v := wdV _ _ _ _) (by simp [results, Try.results90, go_sem, b0, b1, b2, b3, z1, wdV]; done) rfl (hQ.out _ _ ⟨rfl, ?_⟩)
    refine cdrew (cmore (cmore (cset4 (cthen (cmore (Below.refl _ _) _) HB1.out) (Nat.le_refl _)) _) _)
end Go.Proofs.Ytheliihkkoohnaa

namespace Go.Proofs.Ytheliihkkoohnaa
open Go.ChangeShapes Go.WideShapes Go.ChangeAt Go.RowKit
set_option linter.unusedVariables false
set_option linter.unusedSimpArgs false
set_option maxRecDepth 100000

/-! ### sums and differences of 256 bits -/
theorem rowset_other {w : World} {m g : Nat} {c : Array Value} {t : TypeId} {o : Nat} {v : Value} (h : w.heap[m]? = some (.cells c t (0, 0))) (hne : m ≠ g) : (w.setCell ⟨g, o, none⟩ v).drew.heap[m]? = some (.cells c t (0, 0)) := by
  show (w.setCell ⟨g, o, none⟩ v).heap[m]? = _
  rw [heap_setCell_other w _ m _ hne]
  exact h
set_option maxHeartbeats 4000000 in
theorem splus_walk (x0 x1 x2 x3 y0 y1 y2 y3 s0 s1 s2 s3 c1 c2 c3 c4 : Nat)
    (r0 : ∀ w, (callFunc 68 #[.int .u64 x0, .int .u64 y0, .int .u64 0]).run Try.prog w = .ok (.value (.tuple #[.int .u64 s0, .int .u64 c1])) w)
    (r1 : ∀ w, (callFunc 68 #[.int .u64 x1, .int .u64 y1, .int .u64 c1]).run Try.prog w = .ok (.value (.tuple #[.int .u64 s1, .int .u64 c2])) w)
    (r2 : ∀ w, (callFunc 68 #[.int .u64 x2, .int .u64 y2, .int .u64 c2]).run Try.prog w = .ok (.value (.tuple #[.int .u64 s2, .int .u64 c3])) w)
    (r3 : ∀ w, (callFunc 68 #[.int .u64 x3, .int .u64 y3, .int .u64 c3]).run Try.prog w = .ok (.value (.tuple #[.int .u64 s3, .int .u64 c4])) w) (w : World) :
    Calls Try.prog 91 #[wdV x0 x1 x2 x3, wdV y0 y1 y2 y3] w fun e w' => e = .returned (wdV s0 s1 s2 s3) ∧ Below w.heap.size w w' := by
  unfold wdV
  have v0 : IntKind.i64.wrap 0 = 0 := rfl
  have v1 : IntKind.i64.wrap 1 = 1 := rfl
  have v2 : IntKind.i64.wrap 2 = 2 := rfl
  have v3 : IntKind.i64.wrap 3 = 3 := rfl
  refine cps fun Q hQ => ?_
  go_enter Try.func91, Try.ntmps91
  go_wp2
  go_loopw [6, 7, 8] (fun cv _ iv wr => Hid (Below w.heap.size w wr) ∧ wr.heap[w.heap.size]? = some (.cells #[.int .u64 x0, .int .u64 x1, .int .u64 x2, .int .u64 x3] 129 (0, 0)) ∧ wr.heap[w.heap.size + 1]? = some (.cells #[.int .u64 y0, .int .u64 y1, .int .u64 y2, .int .u64 y3] 129 (0, 0)) ∧ wr.heap[w.heap.size + 2]? = some (.cells #[.int .u64 0, .int .u64 0, .int .u64 0, .int .u64 0] 129 (0, 0)) ∧ ∃ a0 a1 a2 a3 c : Nat, wr.heap[w.heap.size + 3]? = some (.cells #[.int .u64 a0, .int .u64 a1, .int .u64 a2, .int .u64 a3] 129 (0, 0)) ∧ cv = .int .u64 c ∧ ((iv = .int .i64 0 ∧ 0 = c ∧ 0 = a0 ∧ 0 = a1 ∧ 0 = a2 ∧ 0 = a3) ∨ (iv = .int .i64 1 ∧ c1 = c ∧ s0 = a0 ∧ 0 = a1 ∧ 0 = a2 ∧ 0 = a3) ∨ (iv = .int .i64 2 ∧ c2 = c ∧ s0 = a0 ∧ s1 = a1 ∧ 0 = a2 ∧ 0 = a3) ∨ (iv = .int .i64 3 ∧ c3 = c ∧ s0 = a0 ∧ s1 = a1 ∧ s2 = a2 ∧ 0 = a3) ∨ (iv = .int .i64 4 ∧ s0 = a0 ∧ s1 = a1 ∧ s2 = a2 ∧ s3 = a3))) (fun _ _ iv _ => (4 - intOf iv).toNat)
  case atStart => exact ⟨cmore (cmore (cmore (cmore (Below.refl _ _) _) _) _) _, (Below.heap_alloc _ _ _ (by first | (simp; done) | (simp; omega))).trans ((Below.heap_alloc _ _ _ (by first | (simp; done) | (simp; omega))).trans ((Below.heap_alloc _ _ _ (by first | (simp; done) | (simp; omega))).trans (rownew' _ _ _ _ (by simp)))), (Below.heap_alloc _ _ _ (by first | (simp; done) | (simp; omega))).trans ((Below.heap_alloc _ _ _ (by first | (simp; done) | (simp; omega))).trans (rownew' _ _ _ _ (by simp))), (Below.heap_alloc _ _ _ (by first | (simp; done) | (simp; omega))).trans (rownew' _ _ _ _ (by simp)), 0, 0, 0, 0, 0, rownew' _ _ _ _ (by simp), rfl, .inl ⟨rfl, rfl, rfl, rfl, rfl, rfl⟩⟩
  case round =>
    obtain ⟨hB, hX, hY, hR, a0, a1, a2, a3, c, hS, rfl, hrel⟩ := hrel
    have HB : Hid (Below w.heap.size w wr) := hB.out
    have xx0 := rowcell hX 0
    have xx1 := rowcell hX 1
    have xx2 := rowcell hX 2
    have xx3 := rowcell hX 3
    have yy0 := rowcell hY 0
    have yy1 := rowcell hY 1
    have yy2 := rowcell hY 2
    have yy3 := rowcell hY 3
    have tt0 := rowcell hR 0
    have tt1 := rowcell hR 1
    have tt2 := rowcell hR 2
    have tt3 := rowcell hR 3
    have bb0 := rowcell hS 0
    have bb1 := rowcell hS 1
    have bb2 := rowcell hS 2
    have bb3 := rowcell hS 3
    have tf := rowfree hR
    have sf := rowfree hS
    simp only [List.getElem?_toArray, List.getElem?_cons_zero, List.getElem?_cons_succ] at xx0 xx1 xx2 xx3 yy0 yy1 yy2 yy3 tt0 tt1 tt2 tt3 bb0 bb1 bb2 bb3
    have GhX : Hid _ := hX
    have GhY : Hid _ := hY
    have GhR : Hid _ := hR
    have GhS : Hid _ := hS
    clear hX hY hR hS hB
    rcases hrel with ⟨rfl, rfl, rfl, rfl, rfl, rfl⟩ | ⟨rfl, rfl, rfl, rfl, rfl, rfl⟩ | ⟨rfl, rfl, rfl, rfl, rfl, rfl⟩ | ⟨rfl, rfl, rfl, rfl, rfl, rfl⟩ | ⟨rfl, rfl, rfl, rfl, rfl⟩
    · go_wp2
      refine wpC_region (fun W => W.cell? ⟨w.heap.size, 0, none⟩ = some (.int .u64 x0) ∧ W.cell? ⟨w.heap.size, 1, none⟩ = some (.int .u64 x1) ∧ W.cell? ⟨w.heap.size, 2, none⟩ = some (.int .u64 x2) ∧ W.cell? ⟨w.heap.size, 3, none⟩ = some (.int .u64 x3) ∧ W.cell? ⟨w.heap.size + 1, 0, none⟩ = some (.int .u64 y0) ∧ W.cell? ⟨w.heap.size + 1, 1, none⟩ = some (.int .u64 y1) ∧ W.cell? ⟨w.heap.size + 1, 2, none⟩ = some (.int .u64 y2) ∧ W.cell? ⟨w.heap.size + 1, 3, none⟩ = some (.int .u64 y3)) (by kernel_rfl) ?_
      refine wpC_take 0 (v := ?_) rfl (by kernel_rfl) (fun _ _ _ h => h) (by kernel_rfl) ?_ ?_; rotate_left; · (intro wC hC; obtain ⟨d0, d1, d2, d3, d4, d5, d6, d7⟩ := hC; go_simp <;> with_reducible rfl)
      refine wpC_take 1 (v := ?_) rfl (by kernel_rfl) (fun _ _ _ h => h) (by kernel_rfl) ?_ ?_; rotate_left; · (intro wC hC; obtain ⟨d0, d1, d2, d3, d4, d5, d6, d7⟩ := hC; go_simp <;> with_reducible rfl)
      refine wpC_take 2 (v := ?_) rfl (by kernel_rfl) (fun _ _ _ h => h) (by kernel_rfl) ?_ ?_; rotate_left; · (intro wC hC; obtain ⟨d0, d1, d2, d3, d4, d5, d6, d7⟩ := hC; go_simp <;> with_reducible rfl)
      refine wpC_take 3 (v := ?_) rfl (by kernel_rfl) (fun _ _ _ h => h) (by kernel_rfl) ?_ ?_; rotate_left; · (intro wC hC; obtain ⟨d0, d1, d2, d3, d4, d5, d6, d7⟩ := hC; go_simp <;> with_reducible rfl)
      refine wpC_take 4 (v := ?_) rfl (by kernel_rfl) (fun _ _ _ h => h) (by kernel_rfl) ?_ ?_; rotate_left; · (intro wC hC; obtain ⟨d0, d1, d2, d3, d4, d5, d6, d7⟩ := hC; go_simp <;> with_reducible rfl)
      refine wpC_take 5 (v := ?_) rfl (by kernel_rfl) (fun _ _ _ h => h) (by kernel_rfl) ?_ ?_; rotate_left; · (intro wC hC; obtain ⟨d0, d1, d2, d3, d4, d5, d6, d7⟩ := hC; go_simp <;> with_reducible rfl)
      refine wpC_take 6 (v := ?_) rfl (by kernel_rfl) (fun _ _ _ h => h) (by kernel_rfl) ?_ ?_; rotate_left; · (intro wC hC; obtain ⟨d0, d1, d2, d3, d4, d5, d6, d7⟩ := hC; go_simp <;> with_reducible rfl)
      refine wpC_take 7 (v := ?_) rfl (by kernel_rfl) (fun _ _ _ h => h) (by kernel_rfl) ?_ ?_; rotate_left; · (intro wC hC; obtain ⟨d0, d1, d2, d3, d4, d5, d6, d7⟩ := hC; go_simp <;> with_reducible rfl)
      refine wpC_take 8 (v := ?_) rfl (by kernel_rfl) (fun _ _ _ h => h) (by kernel_rfl) ?_ ?_; rotate_left; · (intro wC hC; obtain ⟨d0, d1, d2, d3, d4, d5, d6, d7⟩ := hC; go_simp <;> with_reducible rfl)
      refine wpC_take 9 (v := ?_) rfl (by kernel_rfl) (fun _ _ _ h => h) (by kernel_rfl) ?_ ?_; rotate_left; · (intro wC hC; obtain ⟨d0, d1, d2, d3, d4, d5, d6, d7⟩ := hC; go_simp <;> with_reducible rfl)
      refine wpC_take 10 (v := ?_) rfl (by kernel_rfl) (fun _ _ _ h => h) (by kernel_rfl) ?_ ?_; rotate_left; · (intro wC hC; obtain ⟨d0, d1, d2, d3, d4, d5, d6, d7⟩ := hC; go_simp <;> with_reducible rfl)
      refine wpC_take 11 (v := ?_) rfl (by kernel_rfl) (fun _ _ _ h => h) (by kernel_rfl) ?_ ?_; rotate_left; · (intro wC hC; obtain ⟨d0, d1, d2, d3, d4, d5, d6, d7⟩ := hC; go_simp <;> with_reducible rfl)
      refine wpC_take 12 (v := ?_) rfl (by kernel_rfl) (fun _ _ _ h => h) (by kernel_rfl) ?_ ?_; rotate_left; · (intro wC hC; obtain ⟨d0, d1, d2, d3, d4, d5, d6, d7⟩ := hC; go_simp <;> with_reducible rfl)
      refine wpC_step 13 rfl (by kernel_rfl) (by kernel_rfl) ⟨xx0, xx1, xx2, xx3, yy0, yy1, yy2, yy3⟩ (fun K hK => ?_)
      go_simp
      try (refine hK _ _ ?_; clear hK K)
      refine wpC_take 14 (v := ?_) rfl (by kernel_rfl) (fun _ _ _ h => h) (by kernel_rfl) ?_ ?_; rotate_left; · (intro wC hC; obtain _ := hC; go_simp <;> with_reducible rfl)
      refine wpC_done (by kernel_rfl) (by simp [go_sem, xx0, xx1, xx2, xx3, yy0, yy1, yy2, yy3]) ?_
      go_wp2
      go_roundw
      case measure => simp [intOf]
      case rel => exact ⟨cdrew (cset HB.out (by omega) _ _), (rowset_other GhX.out (by omega)), (rowset_other GhY.out (by omega)), (rowset_other GhR.out (by omega)), s0, 0, 0, 0, c1, (rowset GhS.out 0 _).trans (by simp only [List.setIfInBounds_toArray, List.set_cons_zero, List.set_cons_succ]), rfl, .inr (.inl ⟨rfl, rfl, rfl, rfl, rfl, rfl⟩)⟩
    · go_wp2
      refine wpC_region (fun W => W.cell? ⟨w.heap.size, 0, none⟩ = some (.int .u64 x0) ∧ W.cell? ⟨w.heap.size, 1, none⟩ = some (.int .u64 x1) ∧ W.cell? ⟨w.heap.size, 2, none⟩ = some (.int .u64 x2) ∧ W.cell? ⟨w.heap.size, 3, none⟩ = some (.int .u64 x3) ∧ W.cell? ⟨w.heap.size + 1, 0, none⟩ = some (.int .u64 y0) ∧ W.cell? ⟨w.heap.size + 1, 1, none⟩ = some (.int .u64 y1) ∧ W.cell? ⟨w.heap.size + 1, 2, none⟩ = some (.int .u64 y2) ∧ W.cell? ⟨w.heap.size + 1, 3, none⟩ = some (.int .u64 y3)) (by kernel_rfl) ?_
      refine wpC_take 0 (v := ?_) rfl (by kernel_rfl) (fun _ _ _ h => h) (by kernel_rfl) ?_ ?_; rotate_left; · (intro wC hC; obtain ⟨d0, d1, d2, d3, d4, d5, d6, d7⟩ := hC; go_simp <;> with_reducible rfl)
      refine wpC_take 1 (v := ?_) rfl (by kernel_rfl) (fun _ _ _ h => h) (by kernel_rfl) ?_ ?_; rotate_left; · (intro wC hC; obtain ⟨d0, d1, d2, d3, d4, d5, d6, d7⟩ := hC; go_simp <;> with_reducible rfl)
      refine wpC_take 2 (v := ?_) rfl (by kernel_rfl) (fun _ _ _ h => h) (by kernel_rfl) ?_ ?_; rotate_left; · (intro wC hC; obtain ⟨d0, d1, d2, d3, d4, d5, d6, d7⟩ := hC; go_simp <;> with_reducible rfl)
      refine wpC_take 3 (v := ?_) rfl (by kernel_rfl) (fun _ _ _ h => h) (by kernel_rfl) ?_ ?_; rotate_left; · (intro wC hC; obtain ⟨d0, d1, d2, d3, d4, d5, d6, d7⟩ := hC; go_simp <;> with_reducible rfl)
      refine wpC_take 4 (v := ?_) rfl (by kernel_rfl) (fun _ _ _ h => h) (by kernel_rfl) ?_ ?_; rotate_left; · (intro wC hC; obtain ⟨d0, d1, d2, d3, d4, d5, d6, d7⟩ := hC; go_simp <;> with_reducible rfl)
      refine wpC_take 5 (v := ?_) rfl (by kernel_rfl) (fun _ _ _ h => h) (by kernel_rfl) ?_ ?_; rotate_left; · (intro wC hC; obtain ⟨d0, d1, d2, d3, d4, d5, d6, d7⟩ := hC; go_simp <;> with_reducible rfl)
      refine wpC_take 6 (v := ?_) rfl (by kernel_rfl) (fun _ _ _ h => h) (by kernel_rfl) ?_ ?_; rotate_left; · (intro wC hC; obtain ⟨d0, d1, d2, d3, d4, d5, d6, d7⟩ := hC; go_simp <;> with_reducible rfl)
      refine wpC_take 7 (v := ?_) rfl (by kernel_rfl) (fun _ _ _ h => h) (by kernel_rfl) ?_ ?_; rotate_left; · (intro wC hC; obtain ⟨d0, d1, d2, d3, d4, d5, d6, d7⟩ := hC; go_simp <;> with_reducible rfl)
      refine wpC_take 8 (v := ?_) rfl (by kernel_rfl) (fun _ _ _ h => h) (by kernel_rfl) ?_ ?_; rotate_left; · (intro wC hC; obtain ⟨d0, d1, d2, d3, d4, d5, d6, d7⟩ := hC; go_simp <;> with_reducible rfl)
      refine wpC_take 9 (v := ?_) rfl (by kernel_rfl) (fun _ _ _ h => h) (by kernel_rfl) ?_ ?_; rotate_left; · (intro wC hC; obtain ⟨d0, d1, d2, d3, d4, d5, d6, d7⟩ := hC; go_simp <;> with_reducible rfl)
      refine wpC_take 10 (v := ?_) rfl (by kernel_rfl) (fun _ _ _ h => h) (by kernel_rfl) ?_ ?_; rotate_left; · (intro wC hC; obtain ⟨d0, d1, d2, d3, d4, d5, d6, d7⟩ := hC; go_simp <;> with_reducible rfl)
      refine wpC_take 11 (v := ?_) rfl (by kernel_rfl) (fun _ _ _ h => h) (by kernel_rfl) ?_ ?_; rotate_left; · (intro wC hC; obtain ⟨d0, d1, d2, d3, d4, d5, d6, d7⟩ := hC; go_simp <;> with_reducible rfl)
      refine wpC_take 12 (v := ?_) rfl (by kernel_rfl) (fun _ _ _ h => h) (by kernel_rfl) ?_ ?_; rotate_left; · (intro wC hC; obtain ⟨d0, d1, d2, d3, d4, d5, d6, d7⟩ := hC; go_simp <;> with_reducible rfl)
      refine wpC_step 13 rfl (by kernel_rfl) (by kernel_rfl) ⟨xx0, xx1, xx2, xx3, yy0, yy1, yy2, yy3⟩ (fun K hK => ?_)
      go_simp
      try (refine hK _ _ ?_; clear hK K)
      refine wpC_take 14 (v := ?_) rfl (by kernel_rfl) (fun _ _ _ h => h) (by kernel_rfl) ?_ ?_; rotate_left; · (intro wC hC; obtain _ := hC; go_simp <;> with_reducible rfl)
      refine wpC_done (by kernel_rfl) (by simp [go_sem, xx0, xx1, xx2, xx3, yy0, yy1, yy2, yy3]) ?_
      go_wp2
      go_roundw
      case measure => simp [intOf]
      case rel => exact ⟨cdrew (cset HB.out (by omega) _ _), (rowset_other GhX.out (by omega)), (rowset_other GhY.out (by omega)), (rowset_other GhR.out (by omega)), s0, s1, 0, 0, c2, (rowset GhS.out 1 _).trans (by simp only [List.setIfInBounds_toArray, List.set_cons_zero, List.set_cons_succ]), rfl, .inr (.inr (.inl ⟨rfl, rfl, rfl, rfl, rfl, rfl⟩))⟩
    · go_wp2
      refine wpC_region (fun W => W.cell? ⟨w.heap.size, 0, none⟩ = some (.int .u64 x0) ∧ W.cell? ⟨w.heap.size, 1, none⟩ = some (.int .u64 x1) ∧ W.cell? ⟨w.heap.size, 2, none⟩ = some (.int .u64 x2) ∧ W.cell? ⟨w.heap.size, 3, none⟩ = some (.int .u64 x3) ∧ W.cell? ⟨w.heap.size + 1, 0, none⟩ = some (.int .u64 y0) ∧ W.cell? ⟨w.heap.size + 1, 1, none⟩ = some (.int .u64 y1) ∧ W.cell? ⟨w.heap.size + 1, 2, none⟩ = some (.int .u64 y2) ∧ W.cell? ⟨w.heap.size + 1, 3, none⟩ = some (.int .u64 y3)) (by kernel_rfl) ?_
      refine wpC_take 0 (v := ?_) rfl (by kernel_rfl) (fun _ _ _ h => h) (by kernel_rfl) ?_ ?_; rotate_left; · (intro wC hC; obtain ⟨d0, d1, d2, d3, d4, d5, d6, d7⟩ := hC; go_simp <;> with_reducible rfl)
      refine wpC_take 1 (v := ?_) rfl (by kernel_rfl) (fun _ _ _ h => h) (by kernel_rfl) ?_ ?_; rotate_left; · (intro wC hC; obtain ⟨d0, d1, d2, d3, d4, d5, d6, d7⟩ := hC; go_simp <;> with_reducible rfl)
      refine wpC_take 2 (v := ?_) rfl (by kernel_rfl) (fun _ _ _ h => h) (by kernel_rfl) ?_ ?_; rotate_left; · (intro wC hC; obtain ⟨d0, d1, d2, d3, d4, d5, d6, d7⟩ := hC; go_simp <;> with_reducible rfl)
      refine wpC_take 3 (v := ?_) rfl (by kernel_rfl) (fun _ _ _ h => h) (by kernel_rfl) ?_ ?_; rotate_left; · (intro wC hC; obtain ⟨d0, d1, d2, d3, d4, d5, d6, d7⟩ := hC; go_simp <;> with_reducible rfl)
      refine wpC_take 4 (v := ?_) rfl (by kernel_rfl) (fun _ _ _ h => h) (by kernel_rfl) ?_ ?_; rotate_left; · (intro wC hC; obtain ⟨d0, d1, d2, d3, d4, d5, d6, d7⟩ := hC; go_simp <;> with_reducible rfl)
      refine wpC_take 5 (v := ?_) rfl (by kernel_rfl) (fun _ _ _ h => h) (by kernel_rfl) ?_ ?_; rotate_left; · (intro wC hC; obtain ⟨d0, d1, d2, d3, d4, d5, d6, d7⟩ := hC; go_simp <;> with_reducible rfl)
      refine wpC_take 6 (v := ?_) rfl (by kernel_rfl) (fun _ _ _ h => h) (by kernel_rfl) ?_ ?_; rotate_left; · (intro wC hC; obtain ⟨d0, d1, d2, d3, d4, d5, d6, d7⟩ := hC; go_simp <;> with_reducible rfl)
      refine wpC_take 7 (v := ?_) rfl (by kernel_rfl) (fun _ _ _ h => h) (by kernel_rfl) ?_ ?_; rotate_left; · (intro wC hC; obtain ⟨d0, d1, d2, d3, d4, d5, d6, d7⟩ := hC; go_simp <;> with_reducible rfl)
      refine wpC_take 8 (v := ?_) rfl (by kernel_rfl) (fun _ _ _ h => h) (by kernel_rfl) ?_ ?_; rotate_left; · (intro wC hC; obtain ⟨d0, d1, d2, d3, d4, d5, d6, d7⟩ := hC; go_simp <;> with_reducible rfl)
      refine wpC_take 9 (v := ?_) rfl (by kernel_rfl) (fun _ _ _ h => h) (by kernel_rfl) ?_ ?_; rotate_left; · (intro wC hC; obtain ⟨d0, d1, d2, d3, d4, d5, d6, d7⟩ := hC; go_simp <;> with_reducible rfl)
      refine wpC_take 10 (v := ?_) rfl (by kernel_rfl) (fun _ _ _ h => h) (by kernel_rfl) ?_ ?_; rotate_left; · (intro wC hC; obtain ⟨d0, d1, d2, d3, d4, d5, d6, d7⟩ := hC; go_simp <;> with_reducible rfl)
      refine wpC_take 11 (v := ?_) rfl (by kernel_rfl) (fun _ _ _ h => h) (by kernel_rfl) ?_ ?_; rotate_left; · (intro wC hC; obtain ⟨d0, d1, d2, d3, d4, d5, d6, d7⟩ := hC; go_simp <;> with_reducible rfl)
      refine wpC_take 12 (v := ?_) rfl (by kernel_rfl) (fun _ _ _ h => h) (by kernel_rfl) ?_ ?_; rotate_left; · (intro wC hC; obtain ⟨d0, d1, d2, d3, d4, d5, d6, d7⟩ := hC; go_simp <;> with_reducible rfl)
      refine wpC_step 13 rfl (by kernel_rfl) (by kernel_rfl) ⟨xx0, xx1, xx2, xx3, yy0, yy1, yy2, yy3⟩ (fun K hK => ?_)
      go_simp
      try (refine hK _ _ ?_; clear hK K)
      refine wpC_take 14 (v := ?_) rfl (by kernel_rfl) (fun _ _ _ h => h) (by kernel_rfl) ?_ ?_; rotate_left; · (intro wC hC; obtain _ := hC; go_simp <;> with_reducible rfl)
      refine wpC_done (by kernel_rfl) (by simp [go_sem, xx0, xx1, xx2, xx3, yy0, yy1, yy2, yy3]) ?_
      go_wp2
      go_roundw
      case measure => simp [intOf]
      case rel => exact ⟨cdrew (cset HB.out (by omega) _ _), (rowset_other GhX.out (by omega)), (rowset_other GhY.out (by omega)), (rowset_other GhR.out (by omega)), s0, s1, s2, 0, c3, (rowset GhS.out 2 _).trans (by simp only [List.setIfInBounds_toArray, List.set_cons_zero, List.set_cons_succ]), rfl, .inr (.inr (.inr (.inl ⟨rfl, rfl, rfl, rfl, rfl, rfl⟩)))⟩
    · go_wp2
      refine wpC_region (fun W => W.cell? ⟨w.heap.size, 0, none⟩ = some (.int .u64 x0) ∧ W.cell? ⟨w.heap.size, 1, none⟩ = some (.int .u64 x1) ∧ W.cell? ⟨w.heap.size, 2, none⟩ = some (.int .u64 x2) ∧ W.cell? ⟨w.heap.size, 3, none⟩ = some (.int .u64 x3) ∧ W.cell? ⟨w.heap.size + 1, 0, none⟩ = some (.int .u64 y0) ∧ W.cell? ⟨w.heap.size + 1, 1, none⟩ = some (.int .u64 y1) ∧ W.cell? ⟨w.heap.size + 1, 2, none⟩ = some (.int .u64 y2) ∧ W.cell? ⟨w.heap.size + 1, 3, none⟩ = some (.int .u64 y3)) (by kernel_rfl) ?_
      refine wpC_take 0 (v := ?_) rfl (by kernel_rfl) (fun _ _ _ h => h) (by kernel_rfl) ?_ ?_; rotate_left; · (intro wC hC; obtain ⟨d0, d1, d2, d3, d4, d5, d6, d7⟩ := hC; go_simp <;> with_reducible rfl)
      refine wpC_take 1 (v := ?_) rfl (by kernel_rfl) (fun _ _ _ h => h) (by kernel_rfl) ?_ ?_; rotate_left; · (intro wC hC; obtain ⟨d0, d1, d2, d3, d4, d5, d6, d7⟩ := hC; go_simp <;> with_reducible rfl)
      refine wpC_take 2 (v := ?_) rfl (by kernel_rfl) (fun _ _ _ h => h) (by kernel_rfl) ?_ ?_; rotate_left; · (intro wC hC; obtain ⟨d0, d1, d2, d3, d4, d5, d6, d7⟩ := hC; go_simp <;> with_reducible rfl)
      refine wpC_take 3 (v := ?_) rfl (by kernel_rfl) (fun _ _ _ h => h) (by kernel_rfl) ?_ ?_; rotate_left; · (intro wC hC; obtain ⟨d0, d1, d2, d3, d4, d5, d6, d7⟩ := hC; go_simp <;> with_reducible rfl)
      refine wpC_take 4 (v := ?_) rfl (by kernel_rfl) (fun _ _ _ h => h) (by kernel_rfl) ?_ ?_; rotate_left; · (intro wC hC; obtain ⟨d0, d1, d2, d3, d4, d5, d6, d7⟩ := hC; go_simp <;> with_reducible rfl)
      refine wpC_take 5 (v := ?_) rfl (by kernel_rfl) (fun _ _ _ h => h) (by kernel_rfl) ?_ ?_; rotate_left; · (intro wC hC; obtain ⟨d0, d1, d2, d3, d4, d5, d6, d7⟩ := hC; go_simp <;> with_reducible rfl)
      refine wpC_take 6 (v := ?_) rfl (by kernel_rfl) (fun _ _ _ h => h) (by kernel_rfl) ?_ ?_; rotate_left; · (intro wC hC; obtain ⟨d0, d1, d2, d3, d4, d5, d6, d7⟩ := hC; go_simp <;> with_reducible rfl)
      refine wpC_take 7 (v := ?_) rfl (by kernel_rfl) (fun _ _ _ h => h) (by kernel_rfl) ?_ ?_; rotate_left; · (intro wC hC; obtain ⟨d0, d1, d2, d3, d4, d5, d6, d7⟩ := hC; go_simp <;> with_reducible rfl)
      refine wpC_take 8 (v := ?_) rfl (by kernel_rfl) (fun _ _ _ h => h) (by kernel_rfl) ?_ ?_; rotate_left; · (intro wC hC; obtain ⟨d0, d1, d2, d3, d4, d5, d6, d7⟩ := hC; go_simp <;> with_reducible rfl)
      refine wpC_take 9 (v := ?_) rfl (by kernel_rfl) (fun _ _ _ h => h) (by kernel_rfl) ?_ ?_; rotate_left; · (intro wC hC; obtain ⟨d0, d1, d2, d3, d4, d5, d6, d7⟩ := hC; go_simp <;> with_reducible rfl)
      refine wpC_take 10 (v := ?_) rfl (by kernel_rfl) (fun _ _ _ h => h) (by kernel_rfl) ?_ ?_; rotate_left; · (intro wC hC; obtain ⟨d0, d1, d2, d3, d4, d5, d6, d7⟩ := hC; go_simp <;> with_reducible rfl)
      refine wpC_take 11 (v := ?_) rfl (by kernel_rfl) (fun _ _ _ h => h) (by kernel_rfl) ?_ ?_; rotate_left; · (intro wC hC; obtain ⟨d0, d1, d2, d3, d4, d5, d6, d7⟩ := hC; go_simp <;> with_reducible rfl)
      refine wpC_take 12 (v := ?_) rfl (by kernel_rfl) (fun _ _ _ h => h) (by kernel_rfl) ?_ ?_; rotate_left; · (intro wC hC; obtain ⟨d0, d1, d2, d3, d4, d5, d6, d7⟩ := hC; go_simp <;> with_reducible rfl)
      refine wpC_step 13 rfl (by kernel_rfl) (by kernel_rfl) ⟨xx0, xx1, xx2, xx3, yy0, yy1, yy2, yy3⟩ (fun K hK => ?_)
      go_simp
      try (refine hK _ _ ?_; clear hK K)
      refine wpC_take 14 (v := ?_) rfl (by kernel_rfl) (fun _ _ _ h => h) (by kernel_rfl) ?_ ?_; rotate_left; · (intro wC hC; obtain _ := hC; go_simp <;> with_reducible rfl)
      refine wpC_done (by kernel_rfl) (by simp [go_sem, xx0, xx1, xx2, xx3, yy0, yy1, yy2, yy3]) ?_
      go_wp2
      go_roundw
      case measure => simp [intOf]
      case rel => exact ⟨cdrew (cset HB.out (by omega) _ _), (rowset_other GhX.out (by omega)), (rowset_other GhY.out (by omega)), (rowset_other GhR.out (by omega)), s0, s1, s2, s3, c4, (rowset GhS.out 3 _).trans (by simp only [List.setIfInBounds_toArray, List.set_cons_zero, List.set_cons_succ]), rfl, .inr (.inr (.inr (.inr ⟨rfl, rfl, rfl, rfl, rfl⟩)))⟩
    · have zw : w.heap.size + 3 < wr.heap.size := rowlt GhS.out
      go_wp2
      refine bodyPost_ret (v := wdV s0 s1 s2 s3) (by simp [results, Try.results91, go_sem, tt0, tt1, tt2, tt3, bb0, bb1, bb2, bb3, tf, wdV]; done) rfl (hQ.out _ _ ⟨rfl, ?_⟩)
      exact cset4 HB.out (by omega)
set_option maxHeartbeats 4000000 in
theorem sminus_walk (x0 x1 x2 x3 y0 y1 y2 y3 s0 s1 s2 s3 c1 c2 c3 c4 : Nat)
    (r0 : ∀ w, (callFunc 69 #[.int .u64 x0, .int .u64 y0, .int .u64 0]).run Try.prog w = .ok (.value (.tuple #[.int .u64 s0, .int .u64 c1])) w)
    (r1 : ∀ w, (callFunc 69 #[.int .u64 x1, .int .u64 y1, .int .u64 c1]).run Try.prog w = .ok (.value (.tuple #[.int .u64 s1, .int .u64 c2])) w)
    (r2 : ∀ w, (callFunc 69 #[.int .u64 x2, .int .u64 y2, .int .u64 c2]).run Try.prog w = .ok (.value (.tuple #[.int .u64 s2, .int .u64 c3])) w)
    (r3 : ∀ w, (callFunc 69 #[.int .u64 x3, .int .u64 y3, .int .u64 c3]).run Try.prog w = .ok (.value (.tuple #[.int .u64 s3, .int .u64 c4])) w) (w : World) :
    Calls Try.prog 92 #[wdV x0 x1 x2 x3, wdV y0 y1 y2 y3] w fun e w' => e = .returned (wdV s0 s1 s2 s3) ∧ Below w.heap.size w w' := by
  unfold wdV
  have v0 : IntKind.i64.wrap 0 = 0 := rfl
  have v1 : IntKind.i64.wrap 1 = 1 := rfl
  have v2 : IntKind.i64.wrap 2 = 2 := rfl
  have v3 : IntKind.i64.wrap 3 = 3 := rfl
  refine cps fun Q hQ => ?_
  go_enter Try.func92, Try.ntmps92
  go_wp2
  go_loopw [6, 7, 8] (fun cv _ iv wr => Hid (Below w.heap.size w wr) ∧ wr.heap[w.heap.size]? = some (.cells #[.int .u64 x0, .int .u64 x1, .int .u64 x2, .int .u64 x3] 129 (0, 0)) ∧ wr.heap[w.heap.size + 1]? = some (.cells #[.int .u64 y0, .int .u64 y1, .int .u64 y2, .int .u64 y3] 129 (0, 0)) ∧ wr.heap[w.heap.size + 2]? = some (.cells #[.int .u64 0, .int .u64 0, .int .u64 0, .int .u64 0] 129 (0, 0)) ∧ ∃ a0 a1 a2 a3 c : Nat, wr.heap[w.heap.size + 3]? = some (.cells #[.int .u64 a0, .int .u64 a1, .int .u64 a2, .int .u64 a3] 129 (0, 0)) ∧ cv = .int .u64 c ∧ ((iv = .int .i64 0 ∧ 0 = c ∧ 0 = a0 ∧ 0 = a1 ∧ 0 = a2 ∧ 0 = a3) ∨ (iv = .int .i64 1 ∧ c1 = c ∧ s0 = a0 ∧ 0 = a1 ∧ 0 = a2 ∧ 0 = a3) ∨ (iv = .int .i64 2 ∧ c2 = c ∧ s0 = a0 ∧ s1 = a1 ∧ 0 = a2 ∧ 0 = a3) ∨ (iv = .int .i64 3 ∧ c3 = c ∧ s0 = a0 ∧ s1 = a1 ∧ s2 = a2 ∧ 0 = a3) ∨ (iv = .int .i64 4 ∧ s0 = a0 ∧ s1 = a1 ∧ s2 = a2 ∧ s3 = a3))) (fun _ _ iv _ => (4 - intOf iv).toNat)
  case atStart => exact ⟨cmore (cmore (cmore (cmore (Below.refl _ _) _) _) _) _, (Below.heap_alloc _ _ _ (by first | (simp; done) | (simp; omega))).trans ((Below.heap_alloc _ _ _ (by first | (simp; done) | (simp; omega))).trans ((Below.heap_alloc _ _ _ (by first | (simp; done) | (simp; omega))).trans (rownew' _ _ _ _ (by simp)))), (Below.heap_alloc _ _ _ (by first | (simp; done) | (simp; omega))).trans ((Below.heap_alloc _ _ _ (by first | (simp; done) | (simp; omega))).trans (rownew' _ _ _ _ (by simp))), (Below.heap_alloc _ _ _ (by first | (simp; done) | (simp; omega))).trans (rownew' _ _ _ _ (by simp)), 0, 0, 0, 0, 0, rownew' _ _ _ _ (by simp), rfl, .inl ⟨rfl, rfl, rfl, rfl, rfl, rfl⟩⟩
  case round =>
    obtain ⟨hB, hX, hY, hR, a0, a1, a2, a3, c, hS, rfl, hrel⟩ := hrel
    have HB : Hid (Below w.heap.size w wr) := hB.out
    have xx0 := rowcell hX 0
    have xx1 := rowcell hX 1
    have xx2 := rowcell hX 2
    have xx3 := rowcell hX 3
    have yy0 := rowcell hY 0
    have yy1 := rowcell hY 1
    have yy2 := rowcell hY 2
    have yy3 := rowcell hY 3
    have tt0 := rowcell hR 0
    have tt1 := rowcell hR 1
    have tt2 := rowcell hR 2
    have tt3 := rowcell hR 3
    have bb0 := rowcell hS 0
    have bb1 := rowcell hS 1
    have bb2 := rowcell hS 2
    have bb3 := rowcell hS 3
    have tf := rowfree hR
    have sf := rowfree hS
    simp only [List.getElem?_toArray, List.getElem?_cons_zero, List.getElem?_cons_succ] at xx0 xx1 xx2 xx3 yy0 yy1 yy2 yy3 tt0 tt1 tt2 tt3 bb0 bb1 bb2 bb3
    have GhX : Hid _ := hX
    have GhY : Hid _ := hY
    have GhR : Hid _ := hR
    have GhS : Hid _ := hS
    clear hX hY hR hS hB
    rcases hrel with ⟨rfl, rfl, rfl, rfl, rfl, rfl⟩ | ⟨rfl, rfl, rfl, rfl, rfl, rfl⟩ | ⟨rfl, rfl, rfl, rfl, rfl, rfl⟩ | ⟨rfl, rfl, rfl, rfl, rfl, rfl⟩ | ⟨rfl, rfl, rfl, rfl, rfl⟩
    · go_wp2
      refine wpC_region (fun W => W.cell? ⟨w.heap.size, 0, none⟩ = some (.int .u64 x0) ∧ W.cell? ⟨w.heap.size, 1, none⟩ = some (.int .u64 x1) ∧ W.cell? ⟨w.heap.size, 2, none⟩ = some (.int .u64 x2) ∧ W.cell? ⟨w.heap.size, 3, none⟩ = some (.int .u64 x3) ∧ W.cell? ⟨w.heap.size + 1, 0, none⟩ = some (.int .u64 y0) ∧ W.cell? ⟨w.heap.size + 1, 1, none⟩ = some (.int .u64 y1) ∧ W.cell? ⟨w.heap.size + 1, 2, none⟩ = some (.int .u64 y2) ∧ W.cell? ⟨w.heap.size + 1, 3, none⟩ = some (.int .u64 y3)) (by kernel_rfl) ?_
      refine wpC_take 0 (v := ?_) rfl (by kernel_rfl) (fun _ _ _ h => h) (by kernel_rfl) ?_ ?_; rotate_left; · (intro wC hC; obtain ⟨d0, d1, d2, d3, d4, d5, d6, d7⟩ := hC; go_simp <;> with_reducible rfl)
      refine wpC_take 1 (v := ?_) rfl (by kernel_rfl) (fun _ _ _ h => h) (by kernel_rfl) ?_ ?_; rotate_left; · (intro wC hC; obtain ⟨d0, d1, d2, d3, d4, d5, d6, d7⟩ := hC; go_simp <;> with_reducible rfl)
      refine wpC_take 2 (v := ?_) rfl (by kernel_rfl) (fun _ _ _ h => h) (by kernel_rfl) ?_ ?_; rotate_left; · (intro wC hC; obtain ⟨d0, d1, d2, d3, d4, d5, d6, d7⟩ := hC; go_simp <;> with_reducible rfl)
      refine wpC_take 3 (v := ?_) rfl (by kernel_rfl) (fun _ _ _ h => h) (by kernel_rfl) ?_ ?_; rotate_left; · (intro wC hC; obtain ⟨d0, d1, d2, d3, d4, d5, d6, d7⟩ := hC; go_simp <;> with_reducible rfl)
      refine wpC_take 4 (v := ?_) rfl (by kernel_rfl) (fun _ _ _ h => h) (by kernel_rfl) ?_ ?_; rotate_left; · (intro wC hC; obtain ⟨d0, d1, d2, d3, d4, d5, d6, d7⟩ := hC; go_simp <;> with_reducible rfl)
      refine wpC_take 5 (v := ?_) rfl (by kernel_rfl) (fun _ _ _ h => h) (by kernel_rfl) ?_ ?_; rotate_left; · (intro wC hC; obtain ⟨d0, d1, d2, d3, d4, d5, d6, d7⟩ := hC; go_simp <;> with_reducible rfl)
      refine wpC_take 6 (v := ?_) rfl (by kernel_rfl) (fun _ _ _ h => h) (by kernel_rfl) ?_ ?_; rotate_left; · (intro wC hC; obtain ⟨d0, d1, d2, d3, d4, d5, d6, d7⟩ := hC; go_simp <;> with_reducible rfl)
      refine wpC_take 7 (v := ?_) rfl (by kernel_rfl) (fun _ _ _ h => h) (by kernel_rfl) ?_ ?_; rotate_left; · (intro wC hC; obtain ⟨d0, d1, d2, d3, d4, d5, d6, d7⟩ := hC; go_simp <;> with_reducible rfl)
      refine wpC_take 8 (v := ?_) rfl (by kernel_rfl) (fun _ _ _ h => h) (by kernel_rfl) ?_ ?_; rotate_left; · (intro wC hC; obtain ⟨d0, d1, d2, d3, d4, d5, d6, d7⟩ := hC; go_simp <;> with_reducible rfl)
      refine wpC_take 9 (v := ?_) rfl (by kernel_rfl) (fun _ _ _ h => h) (by kernel_rfl) ?_ ?_; rotate_left; · (intro wC hC; obtain ⟨d0, d1, d2, d3, d4, d5, d6, d7⟩ := hC; go_simp <;> with_reducible rfl)
      refine wpC_take 10 (v := ?_) rfl (by kernel_rfl) (fun _ _ _ h => h) (by kernel_rfl) ?_ ?_; rotate_left; · (intro wC hC; obtain ⟨d0, d1, d2, d3, d4, d5, d6, d7⟩ := hC; go_simp <;> with_reducible rfl)
      refine wpC_take 11 (v := ?_) rfl (by kernel_rfl) (fun _ _ _ h => h) (by kernel_rfl) ?_ ?_; rotate_left; · (intro wC hC; obtain ⟨d0, d1, d2, d3, d4, d5, d6, d7⟩ := hC; go_simp <;> with_reducible rfl)
      refine wpC_take 12 (v := ?_) rfl (by kernel_rfl) (fun _ _ _ h => h) (by kernel_rfl) ?_ ?_; rotate_left; · (intro wC hC; obtain ⟨d0, d1, d2, d3, d4, d5, d6, d7⟩ := hC; go_simp <;> with_reducible rfl)
      refine wpC_step 13 rfl (by kernel_rfl) (by kernel_rfl) ⟨xx0, xx1, xx2, xx3, yy0, yy1, yy2, yy3⟩ (fun K hK => ?_)
      go_simp
      try (refine hK _ _ ?_; clear hK K)
      refine wpC_take 14 (v := ?_) rfl (by kernel_rfl) (fun _ _ _ h => h) (by kernel_rfl) ?_ ?_; rotate_left; · (intro wC hC; obtain _ := hC; go_simp <;> with_reducible rfl)
      refine wpC_done (by kernel_rfl) (by simp [go_sem, xx0, xx1, xx2, xx3, yy0, yy1, yy2, yy3]) ?_
      go_wp2
      go_roundw
      case measure => simp [intOf]
      case rel => exact ⟨cdrew (cset HB.out (by omega) _ _), (rowset_other GhX.out (by omega)), (rowset_other GhY.out (by omega)), (rowset_other GhR.out (by omega)), s0, 0, 0, 0, c1, (rowset GhS.out 0 _).trans (by simp only [List.setIfInBounds_toArray, List.set_cons_zero, List.set_cons_succ]), rfl, .inr (.inl ⟨rfl, rfl, rfl, rfl, rfl, rfl⟩)⟩
    · go_wp2
      refine wpC_region (fun W => W.cell? ⟨w.heap.size, 0, none⟩ = some (.int .u64 x0) ∧ W.cell? ⟨w.heap.size, 1, none⟩ = some (.int .u64 x1) ∧ W.cell? ⟨w.heap.size, 2, none⟩ = some (.int .u64 x2) ∧ W.cell? ⟨w.heap.size, 3, none⟩ = some (.int .u64 x3) ∧ W.cell? ⟨w.heap.size + 1, 0, none⟩ = some (.int .u64 y0) ∧ W.cell? ⟨w.heap.size + 1, 1, none⟩ = some (.int .u64 y1) ∧ W.cell? ⟨w.heap.size + 1, 2, none⟩ = some (.int .u64 y2) ∧ W.cell? ⟨w.heap.size + 1, 3, none⟩ = some (.int .u64 y3)) (by kernel_rfl) ?_
      refine wpC_take 0 (v := ?_) rfl (by kernel_rfl) (fun _ _ _ h => h) (by kernel_rfl) ?_ ?_; rotate_left; · (intro wC hC; obtain ⟨d0, d1, d2, d3, d4, d5, d6, d7⟩ := hC; go_simp <;> with_reducible rfl)
      refine wpC_take 1 (v := ?_) rfl (by kernel_rfl) (fun _ _ _ h => h) (by kernel_rfl) ?_ ?_; rotate_left; · (intro wC hC; obtain ⟨d0, d1, d2, d3, d4, d5, d6, d7⟩ := hC; go_simp <;> with_reducible rfl)
      refine wpC_take 2 (v := ?_) rfl (by kernel_rfl) (fun _ _ _ h => h) (by kernel_rfl) ?_ ?_; rotate_left; · (intro wC hC; obtain ⟨d0, d1, d2, d3, d4, d5, d6, d7⟩ := hC; go_simp <;> with_reducible rfl)
      refine wpC_take 3 (v := ?_) rfl (by kernel_rfl) (fun _ _ _ h => h) (by kernel_rfl) ?_ ?_; rotate_left; · (intro wC hC; obtain ⟨d0, d1, d2, d3, d4, d5, d6, d7⟩ := hC; go_simp <;> with_reducible rfl)
      refine wpC_take 4 (v := ?_) rfl (by kernel_rfl) (fun _ _ _ h => h) (by kernel_rfl) ?_ ?_; rotate_left; · (intro wC hC; obtain ⟨d0, d1, d2, d3, d4, d5, d6, d7⟩ := hC; go_simp <;> with_reducible rfl)
      refine wpC_take 5 (v := ?_) rfl (by kernel_rfl) (fun _ _ _ h => h) (by kernel_rfl) ?_ ?_; rotate_left; · (intro wC hC; obtain ⟨d0, d1, d2, d3, d4, d5, d6, d7⟩ := hC; go_simp <;> with_reducible rfl)
      refine wpC_take 6 (v := ?_) rfl (by kernel_rfl) (fun _ _ _ h => h) (by kernel_rfl) ?_ ?_; rotate_left; · (intro wC hC; obtain ⟨d0, d1, d2, d3, d4, d5, d6, d7⟩ := hC; go_simp <;> with_reducible rfl)
      refine wpC_take 7 (v := ?_) rfl (by kernel_rfl) (fun _ _ _ h => h) (by kernel_rfl) ?_ ?_; rotate_left; · (intro wC hC; obtain ⟨d0, d1, d2, d3, d4, d5, d6, d7⟩ := hC; go_simp <;> with_reducible rfl)
      refine wpC_take 8 (v := ?_) rfl (by kernel_rfl) (fun _ _ _ h => h) (by kernel_rfl) ?_ ?_; rotate_left; · (intro wC hC; obtain ⟨d0, d1, d2, d3, d4, d5, d6, d7⟩ := hC; go_simp <;> with_reducible rfl)
      refine wpC_take 9 (v := ?_) rfl (by kernel_rfl) (fun _ _ _ h => h) (by kernel_rfl) ?_ ?_; rotate_left; · (intro wC hC; obtain ⟨d0, d1, d2, d3, d4, d5, d6, d7⟩ := hC; go_simp <;> with_reducible rfl)
      refine wpC_take 10 (v := ?_) rfl (by kernel_rfl) (fun _ _ _ h => h) (by kernel_rfl) ?_ ?_; rotate_left; · (intro wC hC; obtain ⟨d0, d1, d2, d3, d4, d5, d6, d7⟩ := hC; go_simp <;> with_reducible rfl)
      refine wpC_take 11 (v := ?_) rfl (by kernel_rfl) (fun _ _ _ h => h) (by kernel_rfl) ?_ ?_; rotate_left; · (intro wC hC; obtain ⟨d0, d1, d2, d3, d4, d5, d6, d7⟩ := hC; go_simp <;> with_reducible rfl)
      refine wpC_take 12 (v := ?_) rfl (by kernel_rfl) (fun _ _ _ h => h) (by kernel_rfl) ?_ ?_; rotate_left; · (intro wC hC; obtain ⟨d0, d1, d2, d3, d4, d5, d6, d7⟩ := hC; go_simp <;> with_reducible rfl)
      refine wpC_step 13 rfl (by kernel_rfl) (by kernel_rfl) ⟨xx0, xx1, xx2, xx3, yy0, yy1, yy2, yy3⟩ (fun K hK => ?_)
      go_simp
      try (refine hK _ _ ?_; clear hK K)
      refine wpC_take 14 (v := ?_) rfl (by kernel_rfl) (fun _ _ _ h => h) (by kernel_rfl) ?_ ?_; rotate_left; · (intro wC hC; obtain _ := hC; go_simp <;> with_reducible rfl)
      refine wpC_done (by kernel_rfl) (by simp [go_sem, xx0, xx1, xx2, xx3, yy0, yy1, yy2, yy3]) ?_
      go_wp2
      go_roundw
      case measure => simp [intOf]
      case rel => exact ⟨cdrew (cset HB.out (by omega) _ _), (rowset_other GhX.out (by omega)), (rowset_other GhY.out (by omega)), (rowset_other GhR.out (by omega)), s0, s1, 0, 0, c2, (rowset GhS.out 1 _).trans (by simp only [List.setIfInBounds_toArray, List.set_cons_zero, List.set_cons_succ]), rfl, .inr (.inr (.inl ⟨rfl, rfl, rfl, rfl, rfl, rfl⟩))⟩
    · go_wp2
      refine wpC_region (fun W => W.cell? ⟨w.heap.size, 0, none⟩ = some (.int .u64 x0) ∧ W.cell? ⟨w.heap.size, 1, none⟩ = some (.int .u64 x1) ∧ W.cell? ⟨w.heap.size, 2, none⟩ = some (.int .u64 x2) ∧ W.cell? ⟨w.heap.size, 3, none⟩ = some (.int .u64 x3) ∧ W.cell? ⟨w.heap.size + 1, 0, none⟩ = some (.int .u64 y0) ∧ W.cell? ⟨w.heap.size + 1, 1, none⟩ = some (.int .u64 y1) ∧ W.cell? ⟨w.heap.size + 1, 2, none⟩ = some (.int .u64 y2) ∧ W.cell? ⟨w.heap.size + 1, 3, none⟩ = some (.int .u64 y3)) (by kernel_rfl) ?_
      refine wpC_take 0 (v := ?_) rfl (by kernel_rfl) (fun _ _ _ h => h) (by kernel_rfl) ?_ ?_; rotate_left; · (intro wC hC; obtain ⟨d0, d1, d2, d3, d4, d5, d6, d7⟩ := hC; go_simp <;> with_reducible rfl)
      refine wpC_take 1 (v := ?_) rfl (by kernel_rfl) (fun _ _ _ h => h) (by kernel_rfl) ?_ ?_; rotate_left; · (intro wC hC; obtain ⟨d0, d1, d2, d3, d4, d5, d6, d7⟩ := hC; go_simp <;> with_reducible rfl)
      refine wpC_take 2 (v := ?_) rfl (by kernel_rfl) (fun _ _ _ h => h) (by kernel_rfl) ?_ ?_; rotate_left; · (intro wC hC; obtain ⟨d0, d1, d2, d3, d4, d5, d6, d7⟩ := hC; go_simp <;> with_reducible rfl)
      refine wpC_take 3 (v := ?_) rfl (by kernel_rfl) (fun _ _ _ h => h) (by kernel_rfl) ?_ ?_; rotate_left; · (intro wC hC; obtain ⟨d0, d1, d2, d3, d4, d5, d6, d7⟩ := hC; go_simp <;> with_reducible rfl)
      refine wpC_take 4 (v := ?_) rfl (by kernel_rfl) (fun _ _ _ h => h) (by kernel_rfl) ?_ ?_; rotate_left; · (intro wC hC; obtain ⟨d0, d1, d2, d3, d4, d5, d6, d7⟩ := hC; go_simp <;> with_reducible rfl)
      refine wpC_take 5 (v := ?_) rfl (by kernel_rfl) (fun _ _ _ h => h) (by kernel_rfl) ?_ ?_; rotate_left; · (intro wC hC; obtain ⟨d0, d1, d2, d3, d4, d5, d6, d7⟩ := hC; go_simp <;> with_reducible rfl)
      refine wpC_take 6 (v := ?_) rfl (by kernel_rfl) (fun _ _ _ h => h) (by kernel_rfl) ?_ ?_; rotate_left; · (intro wC hC; obtain ⟨d0, d1, d2, d3, d4, d5, d6, d7⟩ := hC; go_simp <;> with_reducible rfl)
      refine wpC_take 7 (v := ?_) rfl (by kernel_rfl) (fun _ _ _ h => h) (by kernel_rfl) ?_ ?_; rotate_left; · (intro wC hC; obtain ⟨d0, d1, d2, d3, d4, d5, d6, d7⟩ := hC; go_simp <;> with_reducible rfl)
      refine wpC_take 8 (v := ?_) rfl (by kernel_rfl) (fun _ _ _ h => h) (by kernel_rfl) ?_ ?_; rotate_left; · (intro wC hC; obtain ⟨d0, d1, d2, d3, d4, d5, d6, d7⟩ := hC; go_simp <;> with_reducible rfl)
      refine wpC_take 9 (v := ?_) rfl (by kernel_rfl) (fun _ _ _ h => h) (by kernel_rfl) ?_ ?_; rotate_left; · (intro wC hC; obtain ⟨d0, d1, d2, d3, d4, d5, d6, d7⟩ := hC; go_simp <;> with_reducible rfl)
      refine wpC_take 10 (v := ?_) rfl (by kernel_rfl) (fun _ _ _ h => h) (by kernel_rfl) ?_ ?_; rotate_left; · (intro wC hC; obtain ⟨d0, d1, d2, d3, d4, d5, d6, d7⟩ := hC; go_simp <;> with_reducible rfl)
      refine wpC_take 11 (v := ?_) rfl (by kernel_rfl) (fun _ _ _ h => h) (by kernel_rfl) ?_ ?_; rotate_left; · (intro wC hC; obtain ⟨d0, d1, d2, d3, d4, d5, d6, d7⟩ := hC; go_simp <;> with_reducible rfl)
      refine wpC_take 12 (v := ?_) rfl (by kernel_rfl) (fun _ _ _ h => h) (by kernel_rfl) ?_ ?_; rotate_left; · (intro wC hC; obtain ⟨d0, d1, d2, d3, d4, d5, d6, d7⟩ := hC; go_simp <;> with_reducible rfl)
      refine wpC_step 13 rfl (by kernel_rfl) (by kernel_rfl) ⟨xx0, xx1, xx2, xx3, yy0, yy1, yy2, yy3⟩ (fun K hK => ?_)
      go_simp
      try (refine hK _ _ ?_; clear hK K)
      refine wpC_take 14 (v := ?_) rfl (by kernel_rfl) (fun _ _ _ h => h) (by kernel_rfl) ?_ ?_; rotate_left; · (intro wC hC; obtain _ := hC; go_simp <;> with_reducible rfl)
      refine wpC_done (by kernel_rfl) (by simp [go_sem, xx0, xx1, xx2, xx3, yy0, yy1, yy2, yy3]) ?_
      go_wp2
      go_roundw
      case measure => simp [intOf]
      case rel => exact ⟨cdrew (cset HB.out (by omega) _ _), (rowset_other GhX.out (by omega)), (rowset_other GhY.out (by omega)), (rowset_other GhR.out (by omega)), s0, s1, s2, 0, c3, (rowset GhS.out 2 _).trans (by simp only [List.setIfInBounds_toArray, List.set_cons_zero, List.set_cons_succ]), rfl, .inr (.inr (.inr (.inl ⟨rfl, rfl, rfl, rfl, rfl, rfl⟩)))⟩
    · go_wp2
      refine wpC_region (fun W => W.cell? ⟨w.heap.size, 0, none⟩ = some (.int .u64 x0) ∧ W.cell? ⟨w.heap.size, 1, none⟩ = some (.int .u64 x1) ∧ W.cell? ⟨w.heap.size, 2, none⟩ = some (.int .u64 x2) ∧ W.cell? ⟨w.heap.size, 3, none⟩ = some (.int .u64 x3) ∧ W.cell? ⟨w.heap.size + 1, 0, none⟩ = some (.int .u64 y0) ∧ W.cell? ⟨w.heap.size + 1, 1, none⟩ = some (.int .u64 y1) ∧ W.cell? ⟨w.heap.size + 1, 2, none⟩ = some (.int .u64 y2) ∧ W.cell? ⟨w.heap.size + 1, 3, none⟩ = some (.int .u64 y3)) (by kernel_rfl) ?_
      refine wpC_take 0 (v := ?_) rfl (by kernel_rfl) (fun _ _ _ h => h) (by kernel_rfl) ?_ ?_; rotate_left; · (intro wC hC; obtain ⟨d0, d1, d2, d3, d4, d5, d6, d7⟩ := hC; go_simp <;> with_reducible rfl)
      refine wpC_take 1 (v := ?_) rfl (by kernel_rfl) (fun _ _ _ h => h) (by kernel_rfl) ?_ ?_; rotate_left; · (intro wC hC; obtain ⟨d0, d1, d2, d3, d4, d5, d6, d7⟩ := hC; go_simp <;> with_reducible rfl)
      refine wpC_take 2 (v := ?_) rfl (by kernel_rfl) (fun _ _ _ h => h) (by kernel_rfl) ?_ ?_; rotate_left; · (intro wC hC; obtain ⟨d0, d1, d2, d3, d4, d5, d6, d7⟩ := hC; go_simp <;> with_reducible rfl)
      refine wpC_take 3 (v := ?_) rfl (by kernel_rfl) (fun _ _ _ h => h) (by kernel_rfl) ?_ ?_; rotate_left; · (intro wC hC; obtain ⟨d0, d1, d2, d3, d4, d5, d6, d7⟩ := hC; go_simp <;> with_reducible rfl)
      refine wpC_take 4 (v := ?_) rfl (by kernel_rfl) (fun _ _ _ h => h) (by kernel_rfl) ?_ ?_; rotate_left; · (intro wC hC; obtain ⟨d0, d1, d2, d3, d4, d5, d6, d7⟩ := hC; go_simp <;> with_reducible rfl)
      refine wpC_take 5 (v := ?_) rfl (by kernel_rfl) (fun _ _ _ h => h) (by kernel_rfl) ?_ ?_; rotate_left; · (intro wC hC; obtain ⟨d0, d1, d2, d3, d4, d5, d6, d7⟩ := hC; go_simp <;> with_reducible rfl)
      refine wpC_take 6 (v := ?_) rfl (by kernel_rfl) (fun _ _ _ h => h) (by kernel_rfl) ?_ ?_; rotate_left; · (intro wC hC; obtain ⟨d0, d1, d2, d3, d4, d5, d6, d7⟩ := hC; go_simp <;> with_reducible rfl)
      refine wpC_take 7 (v := ?_) rfl (by kernel_rfl) (fun _ _ _ h => h) (by kernel_rfl) ?_ ?_; rotate_left; · (intro wC hC; obtain ⟨d0, d1, d2, d3, d4, d5, d6, d7⟩ := hC; go_simp <;> with_reducible rfl)
      refine wpC_take 8 (v := ?_) rfl (by kernel_rfl) (fun _ _ _ h => h) (by kernel_rfl) ?_ ?_; rotate_left; · (intro wC hC; obtain ⟨d0, d1, d2, d3, d4, d5, d6, d7⟩ := hC; go_simp <;> with_reducible rfl)
      refine wpC_take 9 (v := ?_) rfl (by kernel_rfl) (fun _ _ _ h => h) (by kernel_rfl) ?_ ?_; rotate_left; · (intro wC hC; obtain ⟨d0, d1, d2, d3, d4, d5, d6, d7⟩ := hC; go_simp <;> with_reducible rfl)
      refine wpC_take 10 (v := ?_) rfl (by kernel_rfl) (fun _ _ _ h => h) (by kernel_rfl) ?_ ?_; rotate_left; · (intro wC hC; obtain ⟨d0, d1, d2, d3, d4, d5, d6, d7⟩ := hC; go_simp <;> with_reducible rfl)
      refine wpC_take 11 (v := ?_) rfl (by kernel_rfl) (fun _ _ _ h => h) (by kernel_rfl) ?_ ?_; rotate_left; · (intro wC hC; obtain ⟨d0, d1, d2, d3, d4, d5, d6, d7⟩ := hC; go_simp <;> with_reducible rfl)
      refine wpC_take 12 (v := ?_) rfl (by kernel_rfl) (fun _ _ _ h => h) (by kernel_rfl) ?_ ?_; rotate_left; · (intro wC hC; obtain ⟨d0, d1, d2, d3, d4, d5, d6, d7⟩ := hC; go_simp <;> with_reducible rfl)
      refine wpC_step 13 rfl (by kernel_rfl) (by kernel_rfl) ⟨xx0, xx1, xx2, xx3, yy0, yy1, yy2, yy3⟩ (fun K hK => ?_)
      go_simp
      try (refine hK _ _ ?_; clear hK K)
      refine wpC_take 14 (v := ?_) rfl (by kernel_rfl) (fun _ _ _ h => h) (by kernel_rfl) ?_ ?_; rotate_left; · (intro wC hC; obtain _ := hC; go_simp <;> with_reducible rfl)
      refine wpC_done (by kernel_rfl) (by simp [go_sem, xx0, xx1, xx2, xx3, yy0, yy1, yy2, yy3]) ?_
      go_wp2
      go_roundw
      case measure => simp [intOf]
      case rel => exact ⟨cdrew (cset HB.out (by omega) _ _), (rowset_other GhX.out (by omega)), (rowset_other GhY.out (by omega)), (rowset_other GhR.out (by omega)), s0, s1, s2, s3, c4, (rowset GhS.out 3 _).trans (by simp only [List.setIfInBounds_toArray, List.set_cons_zero, List.set_cons_succ]), rfl, .inr (.inr (.inr (.inr ⟨rfl, rfl, rfl, rfl, rfl⟩)))⟩
    · have zw : w.heap.size + 3 < wr.heap.size := rowlt GhS.out
      go_wp2
      refine bodyPost_ret (v := wdV s0 s1 s2 s3) (by simp [results, Try.results92, go_sem, tt0, tt1, tt2, tt3, bb0, bb1, bb2, bb3, tf, wdV]; done) rfl (hQ.out _ _ ⟨rfl, ?_⟩)
      exact cset4 HB.out (by omega)
end Go.Proofs.Ytheliihkkoohnaa

namespace Go.Proofs.Ytheliihkkoohnaa
open Go.ChangeShapes Go.WideShapes Go.ChangeAt Go.RowKit
set_option linter.unusedVariables false
set_option linter.unusedSimpArgs false
set_option maxRecDepth 100000

/-! ### numbers of four words (plain mathematics) -/
structure Qw (n a b c d : Nat) : Prop where
  eq : n = a + b * 18446744073709551616 + c * 340282366920938463463374607431768211456 + d * 6277101735386680763835789423207666416102355444464034512896
  h0 : a ≤ 18446744073709551615
  h1 : b ≤ 18446744073709551615
  h2 : c ≤ 18446744073709551615
  h3 : d ≤ 18446744073709551615
theorem Qw.one {n a b c d a' b' c' d' : Nat} (h : Qw n a b c d) (g : Qw n a' b' c' d') : a = a' ∧ b = b' ∧ c = c' ∧ d = d' := by
  obtain ⟨e, h0, h1, h2, h3⟩ := h
  obtain ⟨e', g0, g1, g2, g3⟩ := g
  omega
theorem qw_of {n : Nat} (h : n < 115792089237316195423570985008687907853269984665640564039457584007913129639936) :
    Qw n (n % 18446744073709551616) (n / 18446744073709551616 % 18446744073709551616) (n / 340282366920938463463374607431768211456 % 18446744073709551616) (n / 6277101735386680763835789423207666416102355444464034512896) := by
  refine ⟨by omega, by omega, by omega, by omega, by omega⟩
theorem Qw.lt {n a b c d : Nat} (h : Qw n a b c d) : n < 115792089237316195423570985008687907853269984665640564039457584007913129639936 := by
  obtain ⟨e, h0, h1, h2, h3⟩ := h
  omega
/-- a word shifted up, and what goes over -/
theorem word_up (x few G : Nat) (h : few + G = 64) : x * 2 ^ few = (x / 2 ^ G) * 18446744073709551616 + x * 2 ^ few % 18446744073709551616 := by
  have e : 18446744073709551616 = 2 ^ G * 2 ^ few := by rw [← Nat.pow_add, Nat.add_comm, h]
  have hp : 0 < 2 ^ few := Nat.pow_pos (by decide)
  have := Nat.div_add_mod (x * 2 ^ few) 18446744073709551616
  rw [show x * 2 ^ few / 18446744073709551616 = x / 2 ^ G by rw [e, Nat.mul_div_mul_right _ _ hp]] at this
  omega
theorem word_join (x y few G : Nat) (h : few + G = 64) (hy : y ≤ 18446744073709551615) :
    (x * 2 ^ few % 18446744073709551616) ||| (y / 2 ^ G) = x * 2 ^ few % 18446744073709551616 + y / 2 ^ G ∧ x * 2 ^ few % 18446744073709551616 + y / 2 ^ G ≤ 18446744073709551615 := by
  have e : 18446744073709551616 = 2 ^ G * 2 ^ few := by rw [← Nat.pow_add, Nat.add_comm, h]
  have hp : 0 < 2 ^ few := Nat.pow_pos (by decide)
  have hg : 0 < 2 ^ G := Nat.pow_pos (by decide)
  have h1 : y / 2 ^ G < 2 ^ few := Nat.div_lt_of_lt_mul (by rw [← e]; omega)
  have h2 : x * 2 ^ few % 18446744073709551616 = (x % 2 ^ G) * 2 ^ few := by rw [e, Nat.mul_mod_mul_right]
  rw [h2]
  refine ⟨by rw [← Nat.shiftLeft_eq, ← Nat.shiftLeft_add_eq_or_of_lt h1], ?_⟩
  have h3 := Nat.mod_lt x hg
  have h4 : (x % 2 ^ G + 1) * 2 ^ few ≤ 2 ^ G * 2 ^ few := Nat.mul_le_mul h3 (Nat.le_refl _)
  rw [Nat.add_mul, Nat.one_mul, ← e] at h4
  omega
/-- four words shifted up together -/
theorem qw_up {n p q r s : Nat} (few G : Nat) (h : few + G = 64) (hq : Qw n p q r s) (ht : s * 2 ^ few ≤ 18446744073709551615) :
    Qw (n * 2 ^ few) (p * 2 ^ few % 18446744073709551616) ((q * 2 ^ few % 18446744073709551616) ||| (p / 2 ^ G)) ((r * 2 ^ few % 18446744073709551616) ||| (q / 2 ^ G)) ((s * 2 ^ few % 18446744073709551616) ||| (r / 2 ^ G)) := by
  obtain ⟨e, h0, h1, h2, h3⟩ := hq
  obtain ⟨j1, k1⟩ := word_join q p few G h h0
  obtain ⟨j2, k2⟩ := word_join r q few G h h1
  obtain ⟨j3, k3⟩ := word_join s r few G h h2
  rw [j1, j2, j3]
  have u0 := word_up p few G h
  have u1 := word_up q few G h
  have u2 := word_up r few G h
  have u3 := Nat.mod_eq_of_lt (show s * 2 ^ few < 18446744073709551616 by omega)
  have en : n * 2 ^ few = p * 2 ^ few + q * 2 ^ few * 18446744073709551616 + r * 2 ^ few * 340282366920938463463374607431768211456 + s * 2 ^ few * 6277101735386680763835789423207666416102355444464034512896 := by
    rw [e, Nat.add_mul, Nat.add_mul, Nat.add_mul, Nat.mul_right_comm q, Nat.mul_right_comm r, Nat.mul_right_comm s]
  have m0 := Nat.mod_lt (p * 2 ^ few) (show 0 < 18446744073709551616 by decide)
  rw [u3] at k3 ⊢
  rw [en]
  generalize p * 2 ^ few = P at *
  generalize q * 2 ^ few = Q at *
  generalize r * 2 ^ few = R at *
  generalize s * 2 ^ few = S at *
  generalize p / 2 ^ G = p1 at *
  generalize q / 2 ^ G = q1 at *
  generalize r / 2 ^ G = r1 at *
  generalize P % 18446744073709551616 = P0 at *
  generalize Q % 18446744073709551616 = Q0 at *
  generalize R % 18446744073709551616 = R0 at *
  clear j1 j2 j3 u3 e en
  refine ⟨by omega, by omega, by omega, by omega, by omega⟩
theorem mlz_any (x : Nat) (hx : x ≤ 18446744073709551615) (w : World) :
    Calls Try.prog 70 #[.int .u64 x] w fun e w' => e = .returned (.int .i64 (64 - (blen x : Int))) ∧ w' = w := by
  have hl : blen x ≤ 64 := blen_le.2 (by omega)
  have k1 := fun w => len64_any x (by omega) w
  rw [bitLen_eq x hx] at k1
  generalize blen x = L at *
  refine cps fun Q hQ => ?_
  go_enter Try.func70, Try.ntmps70
  go_wp2_with (go_at_call 107; refine (k1 _).mono ?_; rintro e w' ⟨rfl, rfl⟩)
  exact hQ.out _ _ ⟨rfl, rfl⟩
/-- what the last steps reckon -/
theorem risen_facts {n p q r s : Nat} (h : Qw n p q r s) (hs : s ≠ 0) :
    ∃ few G A0 A1 A2 A3 B1 B2 B3 n0 n1 n2 n3 : Nat, few + G = 64 ∧ few ≤ 63 ∧ (64 : Int) - (blen s : Int) = (few : Int) ∧ blen n + few = 256 ∧ Qw (n * 2 ^ few) n0 n1 n2 n3 ∧
      IntKind.u64.wrap ((p : Int) * 2 ^ few) = (n0 : Int) ∧ IntKind.u64.wrap ((q : Int) * 2 ^ few) = (A1 : Int) ∧ IntKind.u64.wrap ((r : Int) * 2 ^ few) = (A2 : Int) ∧ IntKind.u64.wrap ((s : Int) * 2 ^ few) = (A3 : Int) ∧
      (p : Int) / 2 ^ G = (B1 : Int) ∧ (q : Int) / 2 ^ G = (B2 : Int) ∧ (r : Int) / 2 ^ G = (B3 : Int) ∧
      bits BinOp.or IntKind.u64 (A1 : Int) (B1 : Int) = (n1 : Int) ∧ bits BinOp.or IntKind.u64 (A2 : Int) (B2 : Int) = (n2 : Int) ∧ bits BinOp.or IntKind.u64 (A3 : Int) (B3 : Int) = (n3 : Int) := by
  have hb : 1 ≤ blen s := by rw [blen_pos hs]; omega
  have hb2 : blen s ≤ 64 := blen_le.2 (by have := h.h3; omega)
  obtain ⟨few, hf⟩ : ∃ few, few + blen s = 64 := ⟨64 - blen s, by omega⟩
  have h1 : s < 2 ^ blen s := blen_le.1 (Nat.le_refl _)
  have hp : 0 < 2 ^ few := Nat.pow_pos (by decide)
  have ht : s * 2 ^ few ≤ 18446744073709551615 := by
    have a : s * 2 ^ few < 2 ^ blen s * 2 ^ few := (Nat.mul_lt_mul_right hp).2 h1
    rw [← Nat.pow_add, Nat.add_comm, hf] at a
    omega
  have hw : ∀ x : Nat, IntKind.u64.wrap ((x : Int) * 2 ^ few) = ((x * 2 ^ few % 18446744073709551616 : Nat) : Int) := fun x => by
    have e : ((x : Int) * 2 ^ few) = ((x * 2 ^ few : Nat) : Int) := by simp
    rw [e, wrapN]
  have hd : ∀ x : Nat, (x : Int) / 2 ^ (64 - few) = ((x / 2 ^ (64 - few) : Nat) : Int) := fun x => by simp
  have hor : ∀ x y : Nat, y ≤ 18446744073709551615 → bits BinOp.or IntKind.u64 ((x * 2 ^ few % 18446744073709551616 : Nat) : Int) ((y / 2 ^ (64 - few) : Nat) : Int) = (((x * 2 ^ few % 18446744073709551616) ||| (y / 2 ^ (64 - few)) : Nat) : Int) := fun x y hy =>
    u64_or_nat _ _ (by have := Nat.mod_lt (x * 2 ^ few) (show 0 < 18446744073709551616 by decide); omega) (by have := Nat.div_le_self y (2 ^ (64 - few)); omega)
  have hbl : blen n + few = 256 := by
    have e : n / 2 ^ 192 = s := by
      obtain ⟨e, a0, a1, a2, a3⟩ := h
      rw [show (2 : Nat) ^ 192 = 6277101735386680763835789423207666416102355444464034512896 by decide]
      omega
    have := @blen_shift n 192 (by rw [e]; exact hs)
    rw [e] at this
    omega
  exact ⟨few, 64 - few, 0, _, _, _, _, _, _, _, _, _, _, by omega, by omega, by omega, hbl, qw_up few (64 - few) (by omega) h ht, hw p, hw q, hw r, hw s, hd p, hd q, hd r, hor q p h.h0, hor r q h.h1, hor s r h.h2⟩
end Go.Proofs.Ytheliihkkoohnaa
