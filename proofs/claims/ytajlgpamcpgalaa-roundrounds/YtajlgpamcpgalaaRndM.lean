import Derived.Test.YtajlgpamcpgalaaRndL
namespace Go.Proofs.Ytajlgpamcpgalaa
open Go.ChangeShapes Go.WideShapes Go.ChangeAt Go.RowKit
set_option linter.unusedVariables false
set_option linter.unusedSimpArgs false
set_option maxRecDepth 100000

theorem Row.setU {w : World} {v : Value} {l : List Nat} (h : Row w v l) (m k : Nat) (u u' : Value) (hc : w.cell? ⟨m, k, none⟩ = some u) (hu : ∀ x, u ≠ .int .i64 x) : Row (w.setCell ⟨m, k, none⟩ u') v l := by
  obtain ⟨ao, c, rfl, hc1, hl, h⟩ := h
  refine ⟨ao, c, rfl, hc1, hl, ?_⟩
  rcases h with h | ⟨b, off, rfl, hlt, h⟩
  · exact .inl h
  · refine .inr ⟨b, off, rfl, by simpa using hlt, fun j hj => ?_⟩
    have hj2 := h j hj
    have hne : (⟨m, k, none⟩ : Addr) ≠ ⟨b, off + j, none⟩ := fun e => by
      rw [← e, hc] at hj2
      exact hu _ (Option.some.inj hj2)
    rw [World.cell?_setCell_other _ _ _ _ hne]
    exact hj2
theorem dlen_of_blen {M : Nat} (h : blen M ≤ 1099511627776) : dlen M ≤ 1099511627776 := by
  refine Nat.le_trans (dlen_le_of_lt ?_) h
  refine Nat.lt_of_lt_of_le (blen_hi M) ?_
  rw [show (16777216 : Nat) = 2 ^ 24 by decide, ← Nat.pow_mul]
  exact Nat.pow_le_pow_right (by decide) (by omega)
theorem dlen_mant {K : Nat} (h : K < 2 ^ 128) : dlen K ≤ 1099511627776 := by
  refine Nat.le_trans (dlen_le_of_lt (k := 6) (Nat.lt_of_lt_of_le h (by decide))) (by decide)
theorem heldX_bounds (s : Int) : -1099511627776 ≤ heldX s ∧ heldX s ≤ 1099511627776 := by unfold heldX; split <;> (try split) <;> omega
theorem cset6 {a W : World} {m : Nat} {v0 v1 v2 v3 v4 v5 : Value} (h : Below a.heap.size a W) (hb : a.heap.size ≤ m) :
    Below a.heap.size a ((((((W.setCell ⟨m, 0, none⟩ v0).setCell ⟨m, 1, none⟩ v1).setCell ⟨m, 2, none⟩ v2).setCell ⟨m, 3, none⟩ v3).setCell ⟨m, 4, none⟩ v4).setCell ⟨m, 5, none⟩ v5) :=
  cset (cset (cset (cset (cset (cset h hb 0 v0) hb 1 v1) hb 2 v2) hb 3 v3) hb 4 v4) hb 5 v5
theorem exactly7_lo (neg : Bool) (v : Value) (M : Nat) (exp : Int) (rest : Bool) (h0 : M ≠ 0) (hb : blen M ≤ 1099511627776) (he : -1152921504606846976 ≤ exp ∧ exp ≤ 1152921504606846976) (hc : blen M < 128) (w : World) (hr : Row w v (dig M)) :
    Calls Try.prog 29 #[.bool neg, v, .int .i64 exp, .bool rest] w fun e w' => e = .returned (exactV neg M exp rest) ∧ Below w.heap.size w w' := by
  have hS := dlen_of_blen hb
  obtain ⟨hK1, hK2⟩ := normN_mant h0
  have hSK := dlen_mant hK2
  have hp : 1 ≤ blen M := by rw [blen_pos h0]; omega
  have hv : exactV neg M exp rest = exV 1 neg (heldX (exp + blen M - 1)) (normN M / 2 ^ 64 % 2 ^ 64) (normN M % 2 ^ 64) (rest || lostN M) := by unfold exactV; rw [if_neg h0]
  rw [hv]
  have k1 := fun w hw => nbits_any v M hS w hw
  have k2 := held7_any (exp + blen M - 1)
  have hhb := heldX_bounds (exp + blen M - 1)
  have kw := fun v w hw => nword_any v (normN M) w hw
  have ks := fun v w hw => nshr_any v (normN M) 64 (by decide) hSK w hw
  have kx := fun v w hw => nword_any v (normN M / 2 ^ 64) w hw
  have k3 := fun w hw => nshl_any v M (128 - blen M) (by omega) hS w hw
  rw [show M * 2 ^ (128 - blen M) = normN M by unfold normN; rw [if_pos hc]] at k3
  have hl : (rest || lostN M) = rest := by unfold lostN; rw [decide_eq_false (by omega)]; simp
  rw [hl]
  have hd : (128 : Int) - ((blen M : Nat) : Int) = ((128 - blen M : Nat) : Int) := by omega
  obtain ⟨d, hdd⟩ : ∃ d, d = 128 - blen M := ⟨_, rfl⟩
  rw [← hdd] at k3 hd
  have g1 : decide (((blen M : Nat) : Int) < 128) = true := decide_eq_true (by omega)
  have g2 : decide ((128 : Int) < ((blen M : Nat) : Int)) = false := decide_eq_false (by omega)
  have hb1 : 1 ≤ ((blen M : Nat) : Int) ∧ ((blen M : Nat) : Int) ≤ 1099511627776 := by omega
  have g0 : (((blen M : Nat) : Int) == 0) = false := beq_eq_false_iff_ne.2 (by omega)
  clear hv hp hK1 hK2 hSK
  clear hl
  generalize heldX (exp + blen M - 1) = hx at *
  have HR : Hid (Row w v (dig M)) := hr
  generalize normN M % 2 ^ 64 = lo at *
  generalize normN M / 2 ^ 64 % 2 ^ 64 = hi at *
  generalize normN M / 2 ^ 64 = K2 at *
  generalize normN M = K at *
  clear hr hb hc h0
  clear hdd
  generalize ((blen M : Nat) : Int) = n at *
  refine cps fun Q hQ => ?_
  unfold exV at *
  go_enter Try.func29, Try.ntmps29
  go_wp2_with (first
    | (go_at_call 53; go_must (refine (k1 _ (HR.out.below (cmore (Below.refl _ _) _))).mono ?_); rintro e wx ⟨rfl, hwx⟩; rw [hwx]; clear hwx wx)
    | (go_at_call 54; go_must (refine (k2 _).mono ?_); rintro e wx ⟨rfl, hwx⟩; rw [hwx]; clear hwx wx)
    | (go_at_call_of 57 v3; go_must (refine (kx v3 _ HR3.out).mono ?_); rintro e wx ⟨rfl, hwx⟩; rw [hwx]; clear hwx wx)
    | (go_at_call_of 56 v2; go_must (refine (ks v2 _ (HR2.out.setU _ _ _ _ g4 (by intro x h; cases h))).mono ?_); rintro e w3 ⟨v3, rfl, hr3, hb3⟩; have R10 : w3.heap[w.heap.size + 1]? = some (.cells #[.int .i64 1, .bool neg, .int .i64 hx, .int .u64 0, .int .u64 lo, .bool rest] 25 (0, 0)) := (hb3.block (w.heap.size + 1) (by simpa using z2)).trans ((rowset HR10.out 4 _).trans (by simp only [List.setIfInBounds_toArray, List.set_cons_zero, List.set_cons_succ])); have R8 := (hb3.block w.heap.size (by simp; omega)).trans ((heap_setCell_other _ _ _ _ (by simp)).trans HR8.out); have HB3 : Hid (Below w.heap.size w w3) := cthen (cset HB2.out (by omega) _ _) hb3; have HR3 : Hid (Row w3 v3 (dig K2)) := hr3; have z3 : w.heap.size + 1 < w3.heap.size := (by have := hb3.size; simp at this; omega); have p0 := rowcell R10 0; have p1 := rowcell R10 1; have p2 := rowcell R10 2; have p3 := rowcell R10 3; have p4 := rowcell R10 4; have p5 := rowcell R10 5; have pf := rowfree R10; simp only [List.getElem?_toArray, List.getElem?_cons_zero, List.getElem?_cons_succ] at p0 p1 p2 p3 p4 p5; have q0 := rowcell R8 0; have q1 := rowcell R8 1; have q2 := rowcell R8 2; have q3 := rowcell R8 3; have q4 := rowcell R8 4; have q5 := rowcell R8 5; have qf := rowfree R8; simp only [List.getElem?_toArray, List.getElem?_cons_zero, List.getElem?_cons_succ] at q0 q1 q2 q3 q4 q5; clear hr3 hb3)
    | (go_at_call 27; go_must (refine (k3 _ (HR.out.below (cmore (cmore (Below.refl _ _) _) _))).mono ?_); rintro e w2 ⟨v2, rfl, hr2, hb2⟩; have R10 := (hb2.block (w.heap.size + 1) (by simp)).trans (rownew' _ _ _ _ (by simp)); have R8 := (hb2.block w.heap.size (by simp; omega)).trans ((Below.heap_alloc _ _ _ (by simp)).trans (rownew' _ _ _ _ (by simp))); have HB2 : Hid (Below w.heap.size w w2) := cthen (cmore (cmore (Below.refl _ _) _) _) hb2; have HR2 : Hid (Row w2 v2 (dig K)) := hr2; have z2 : w.heap.size + 1 < w2.heap.size := (by have := hb2.size; simp at this; omega); have g0 := rowcell R10 0; have g1 := rowcell R10 1; have g2 := rowcell R10 2; have g3 := rowcell R10 3; have g4 := rowcell R10 4; have g5 := rowcell R10 5; have gf := rowfree R10; simp only [List.getElem?_toArray, List.getElem?_cons_zero, List.getElem?_cons_succ] at g0 g1 g2 g3 g4 g5; have h0 := rowcell R8 0; have h1 := rowcell R8 1; have h2 := rowcell R8 2; have h3 := rowcell R8 3; have h4 := rowcell R8 4; have h5 := rowcell R8 5; have hf := rowfree R8; simp only [List.getElem?_toArray, List.getElem?_cons_zero, List.getElem?_cons_succ] at h0 h1 h2 h3 h4 h5; have HR10 : Hid _ := R10; have HR8 : Hid _ := R8; clear hr2 hb2 R10 R8)
    | (go_at_call 57; go_must (refine (kw v2 _ HR2.out).mono ?_); rintro e wx ⟨rfl, hwx⟩; rw [hwx]; clear hwx wx))
  refine bodyPost_ret (v := .agg #[.int .i64 1, .bool neg, .int .i64 hx, .int .u64 hi, .int .u64 lo, .bool rest]) (by simp [results, Try.results29, go_sem, q0, q1, q2, q3, q4, q5, qf]) rfl (hQ.out _ _ ⟨by simp, ?_⟩)
  exact cset6 (cset HB3.out (by omega) _ _) (Nat.le_refl _)
theorem exactly7_mid (neg : Bool) (v : Value) (M : Nat) (exp : Int) (rest : Bool) (h0 : M ≠ 0) (hb : blen M ≤ 1099511627776) (he : -1152921504606846976 ≤ exp ∧ exp ≤ 1152921504606846976) (hc : blen M = 128) (w : World) (hr : Row w v (dig M)) :
    Calls Try.prog 29 #[.bool neg, v, .int .i64 exp, .bool rest] w fun e w' => e = .returned (exactV neg M exp rest) ∧ Below w.heap.size w w' := by
  have hS := dlen_of_blen hb
  obtain ⟨hK1, hK2⟩ := normN_mant h0
  have hSK := dlen_mant hK2
  have hp : 1 ≤ blen M := by rw [blen_pos h0]; omega
  have hv : exactV neg M exp rest = exV 1 neg (heldX (exp + blen M - 1)) (normN M / 2 ^ 64 % 2 ^ 64) (normN M % 2 ^ 64) (rest || lostN M) := by unfold exactV; rw [if_neg h0]
  rw [hv]
  have k1 := fun w hw => nbits_any v M hS w hw
  have k2 := held7_any (exp + blen M - 1)
  have hhb := heldX_bounds (exp + blen M - 1)
  have kw := fun v w hw => nword_any v (normN M) w hw
  have ks := fun v w hw => nshr_any v (normN M) 64 (by decide) hSK w hw
  have kx := fun v w hw => nword_any v (normN M / 2 ^ 64) w hw
  have hn : normN M = M := by unfold normN; rw [if_neg (by omega), hc]; simp
  have hl : (rest || lostN M) = rest := by unfold lostN; rw [decide_eq_false (by omega)]; simp
  rw [hl]
  have g1 : decide (((blen M : Nat) : Int) < 128) = false := decide_eq_false (by omega)
  have g2 : decide ((128 : Int) < ((blen M : Nat) : Int)) = false := decide_eq_false (by omega)
  have hb1 : 1 ≤ ((blen M : Nat) : Int) ∧ ((blen M : Nat) : Int) ≤ 1099511627776 := by omega
  have g0 : (((blen M : Nat) : Int) == 0) = false := beq_eq_false_iff_ne.2 (by omega)
  clear hv hp hK1 hK2 hSK
  clear hl
  generalize heldX (exp + blen M - 1) = hx at *
  have HR : Hid (Row w v (dig M)) := hr
  have HR' : Hid (Row w v (dig (normN M))) := by rw [hn]; exact hr
  clear hn
  generalize normN M % 2 ^ 64 = lo at *
  generalize normN M / 2 ^ 64 % 2 ^ 64 = hi at *
  generalize normN M / 2 ^ 64 = K2 at *
  generalize normN M = K at *
  clear hr hb hc h0
  generalize ((blen M : Nat) : Int) = n at *
  refine cps fun Q hQ => ?_
  unfold exV at *
  go_enter Try.func29, Try.ntmps29
  go_wp2_with (first
    | (go_at_call 53; go_must (refine (k1 _ (HR.out.below (cmore (Below.refl _ _) _))).mono ?_); rintro e wx ⟨rfl, hwx⟩; rw [hwx]; clear hwx wx)
    | (go_at_call 54; go_must (refine (k2 _).mono ?_); rintro e wx ⟨rfl, hwx⟩; rw [hwx]; clear hwx wx)
    | (go_at_call_of 57 v3; go_must (refine (kx v3 _ HR3.out).mono ?_); rintro e wx ⟨rfl, hwx⟩; rw [hwx]; clear hwx wx)
    | (go_at_call 57; go_must (refine (kw v _ (HR'.out.below (cmore (cmore (Below.refl _ _) _) _))).mono ?_); rintro e wx ⟨rfl, hwx⟩; rw [hwx]; clear hwx wx)
    | (go_at_call 56; go_must (refine (ks v _ (HR'.out.below (cmore (cmore (Below.refl _ _) _) _))).mono ?_); rintro e w3 ⟨v3, rfl, hr3, hb3⟩; have R10 := (hb3.block (w.heap.size + 1) (by simp)).trans (rownew' _ _ _ _ (by simp)); have R8 := (hb3.block w.heap.size (by simp; omega)).trans ((Below.heap_alloc _ _ _ (by simp)).trans (rownew' _ _ _ _ (by simp))); have HB3 : Hid (Below w.heap.size w w3) := cthen (cmore (cmore (Below.refl _ _) _) _) hb3; have HR3 : Hid (Row w3 v3 (dig K2)) := hr3; have z3 : w.heap.size + 1 < w3.heap.size := (by have := hb3.size; simp at this; omega); have g0 := rowcell R10 0; have g1 := rowcell R10 1; have g2 := rowcell R10 2; have g3 := rowcell R10 3; have g4 := rowcell R10 4; have g5 := rowcell R10 5; have gf := rowfree R10; simp only [List.getElem?_toArray, List.getElem?_cons_zero, List.getElem?_cons_succ] at g0 g1 g2 g3 g4 g5; have h0 := rowcell R8 0; have h1 := rowcell R8 1; have h2 := rowcell R8 2; have h3 := rowcell R8 3; have h4 := rowcell R8 4; have h5 := rowcell R8 5; have hf := rowfree R8; simp only [List.getElem?_toArray, List.getElem?_cons_zero, List.getElem?_cons_succ] at h0 h1 h2 h3 h4 h5; clear hr3 hb3))
  refine bodyPost_ret (v := .agg #[.int .i64 1, .bool neg, .int .i64 hx, .int .u64 hi, .int .u64 lo, .bool rest]) (by simp [results, Try.results29, go_sem, h0, h1, h2, h3, h4, h5, hf]) rfl (hQ.out _ _ ⟨by simp, ?_⟩)
  exact cset6 (cset HB3.out (by omega) _ _) (Nat.le_refl _)
theorem exactly7_hi (neg : Bool) (v : Value) (M : Nat) (exp : Int) (rest : Bool) (h0 : M ≠ 0) (hb : blen M ≤ 1099511627776) (he : -1152921504606846976 ≤ exp ∧ exp ≤ 1152921504606846976) (hc : 128 < blen M) (w : World) (hr : Row w v (dig M)) :
    Calls Try.prog 29 #[.bool neg, v, .int .i64 exp, .bool rest] w fun e w' => e = .returned (exactV neg M exp rest) ∧ Below w.heap.size w w' := by
  have hS := dlen_of_blen hb
  obtain ⟨hK1, hK2⟩ := normN_mant h0
  have hSK := dlen_mant hK2
  have hp : 1 ≤ blen M := by rw [blen_pos h0]; omega
  have hv : exactV neg M exp rest = exV 1 neg (heldX (exp + blen M - 1)) (normN M / 2 ^ 64 % 2 ^ 64) (normN M % 2 ^ 64) (rest || lostN M) := by unfold exactV; rw [if_neg h0]
  rw [hv]
  have k1 := fun w hw => nbits_any v M hS w hw
  have k2 := held7_any (exp + blen M - 1)
  have hhb := heldX_bounds (exp + blen M - 1)
  have kw := fun v w hw => nword_any v (normN M) w hw
  have ks := fun v w hw => nshr_any v (normN M) 64 (by decide) hSK w hw
  have kx := fun v w hw => nword_any v (normN M / 2 ^ 64) w hw
  have k3 := fun w hw => nshr_any v M (blen M - 128) (by omega) hS w hw
  rw [show M / 2 ^ (blen M - 128) = normN M by unfold normN; rw [if_neg (by omega)]] at k3
  have k4 := fun w hw => nlow_any v M (blen M - 128) (by omega) hS w hw
  rw [show decide (M % 2 ^ (blen M - 128) ≠ 0) = lostN M by unfold lostN; rw [decide_eq_true hc]; simp] at k4
  have hd : ((blen M : Nat) : Int) - 128 = ((blen M - 128 : Nat) : Int) := by omega
  obtain ⟨d, hdd⟩ : ∃ d, d = blen M - 128 := ⟨_, rfl⟩
  rw [← hdd] at k3 k4 hd
  have g1 : decide (((blen M : Nat) : Int) < 128) = false := decide_eq_false (by omega)
  have g2 : decide ((128 : Int) < ((blen M : Nat) : Int)) = true := decide_eq_true (by omega)
  have hb1 : 1 ≤ ((blen M : Nat) : Int) ∧ ((blen M : Nat) : Int) ≤ 1099511627776 := by omega
  have g0 : (((blen M : Nat) : Int) == 0) = false := beq_eq_false_iff_ne.2 (by omega)
  clear hv hp hK1 hK2 hSK
  generalize lostN M = lost at *
  generalize heldX (exp + blen M - 1) = hx at *
  have HR : Hid (Row w v (dig M)) := hr
  generalize normN M % 2 ^ 64 = lo at *
  generalize normN M / 2 ^ 64 % 2 ^ 64 = hi at *
  generalize normN M / 2 ^ 64 = K2 at *
  generalize normN M = K at *
  clear hr hb hc h0
  clear hdd
  generalize ((blen M : Nat) : Int) = n at *
  refine cps fun Q hQ => ?_
  unfold exV at *
  cases rest
  · skip
    go_enter Try.func29, Try.ntmps29
    go_wp2_with (first
      | (go_at_call 53; go_must (refine (k1 _ (HR.out.below (cmore (Below.refl _ _) _))).mono ?_); rintro e wx ⟨rfl, hwx⟩; rw [hwx]; clear hwx wx)
      | (go_at_call 54; go_must (refine (k2 _).mono ?_); rintro e wx ⟨rfl, hwx⟩; rw [hwx]; clear hwx wx)
      | (go_at_call_of 57 v3; go_must (refine (kx v3 _ HR3.out).mono ?_); rintro e wx ⟨rfl, hwx⟩; rw [hwx]; clear hwx wx)
      | (go_at_call 55; go_must (refine (k4 _ (HR.out.below (cmore (cmore (Below.refl _ _) _) _))).mono ?_); rintro e wx ⟨rfl, hwx⟩; rw [hwx]; clear hwx wx)
      | (go_at_call_of 56 v2; go_must (refine (ks v2 _ (HR2.out.setU _ _ _ _ g4 (by intro x h; cases h))).mono ?_); rintro e w3 ⟨v3, rfl, hr3, hb3⟩; have R10 : w3.heap[w.heap.size + 1]? = some (.cells #[.int .i64 1, .bool neg, .int .i64 hx, .int .u64 0, .int .u64 lo, .bool lost] 25 (0, 0)) := (hb3.block (w.heap.size + 1) (by simpa using z2)).trans ((rowset HR10.out 4 _).trans (by simp only [List.setIfInBounds_toArray, List.set_cons_zero, List.set_cons_succ])); have R8 := (hb3.block w.heap.size (by simp; omega)).trans ((heap_setCell_other _ _ _ _ (by simp)).trans HR8.out); have HB3 : Hid (Below w.heap.size w w3) := cthen (cset HB2.out (by omega) _ _) hb3; have HR3 : Hid (Row w3 v3 (dig K2)) := hr3; have z3 : w.heap.size + 1 < w3.heap.size := (by have := hb3.size; simp at this; omega); have p0 := rowcell R10 0; have p1 := rowcell R10 1; have p2 := rowcell R10 2; have p3 := rowcell R10 3; have p4 := rowcell R10 4; have p5 := rowcell R10 5; have pf := rowfree R10; simp only [List.getElem?_toArray, List.getElem?_cons_zero, List.getElem?_cons_succ] at p0 p1 p2 p3 p4 p5; have q0 := rowcell R8 0; have q1 := rowcell R8 1; have q2 := rowcell R8 2; have q3 := rowcell R8 3; have q4 := rowcell R8 4; have q5 := rowcell R8 5; have qf := rowfree R8; simp only [List.getElem?_toArray, List.getElem?_cons_zero, List.getElem?_cons_succ] at q0 q1 q2 q3 q4 q5; clear hr3 hb3)
      | (go_at_call 56; go_must (refine (k3 _ (HR.out.below (cmore (cmore (Below.refl _ _) _) _))).mono ?_); rintro e w2 ⟨v2, rfl, hr2, hb2⟩; have R10 := (hb2.block (w.heap.size + 1) (by simp)).trans (rownew' _ _ _ _ (by simp)); have R8 := (hb2.block w.heap.size (by simp; omega)).trans ((Below.heap_alloc _ _ _ (by simp)).trans (rownew' _ _ _ _ (by simp))); have HB2 : Hid (Below w.heap.size w w2) := cthen (cmore (cmore (Below.refl _ _) _) _) hb2; have HR2 : Hid (Row w2 v2 (dig K)) := hr2; have z2 : w.heap.size + 1 < w2.heap.size := (by have := hb2.size; simp at this; omega); have g0 := rowcell R10 0; have g1 := rowcell R10 1; have g2 := rowcell R10 2; have g3 := rowcell R10 3; have g4 := rowcell R10 4; have g5 := rowcell R10 5; have gf := rowfree R10; simp only [List.getElem?_toArray, List.getElem?_cons_zero, List.getElem?_cons_succ] at g0 g1 g2 g3 g4 g5; have h0 := rowcell R8 0; have h1 := rowcell R8 1; have h2 := rowcell R8 2; have h3 := rowcell R8 3; have h4 := rowcell R8 4; have h5 := rowcell R8 5; have hf := rowfree R8; simp only [List.getElem?_toArray, List.getElem?_cons_zero, List.getElem?_cons_succ] at h0 h1 h2 h3 h4 h5; have HR10 : Hid _ := R10; have HR8 : Hid _ := R8; clear hr2 hb2 R10 R8)
      | (go_at_call 57; go_must (refine (kw v2 _ HR2.out).mono ?_); rintro e wx ⟨rfl, hwx⟩; rw [hwx]; clear hwx wx))
    refine bodyPost_ret (v := .agg #[.int .i64 1, .bool neg, .int .i64 hx, .int .u64 hi, .int .u64 lo, .bool lost]) (by simp [results, Try.results29, go_sem, q0, q1, q2, q3, q4, q5, qf]) rfl (hQ.out _ _ ⟨by simp, ?_⟩)
    exact cset6 (cset HB3.out (by omega) _ _) (Nat.le_refl _)
  · skip
    go_enter Try.func29, Try.ntmps29
    go_wp2_with (first
      | (go_at_call 53; go_must (refine (k1 _ (HR.out.below (cmore (Below.refl _ _) _))).mono ?_); rintro e wx ⟨rfl, hwx⟩; rw [hwx]; clear hwx wx)
      | (go_at_call 54; go_must (refine (k2 _).mono ?_); rintro e wx ⟨rfl, hwx⟩; rw [hwx]; clear hwx wx)
      | (go_at_call_of 57 v3; go_must (refine (kx v3 _ HR3.out).mono ?_); rintro e wx ⟨rfl, hwx⟩; rw [hwx]; clear hwx wx)
      | (go_at_call 55; go_must (refine (k4 _ (HR.out.below (cmore (cmore (Below.refl _ _) _) _))).mono ?_); rintro e wx ⟨rfl, hwx⟩; rw [hwx]; clear hwx wx)
      | (go_at_call_of 56 v2; go_must (refine (ks v2 _ (HR2.out.setU _ _ _ _ g4 (by intro x h; cases h))).mono ?_); rintro e w3 ⟨v3, rfl, hr3, hb3⟩; have R10 : w3.heap[w.heap.size + 1]? = some (.cells #[.int .i64 1, .bool neg, .int .i64 hx, .int .u64 0, .int .u64 lo, .bool true] 25 (0, 0)) := (hb3.block (w.heap.size + 1) (by simpa using z2)).trans ((rowset HR10.out 4 _).trans (by simp only [List.setIfInBounds_toArray, List.set_cons_zero, List.set_cons_succ])); have R8 := (hb3.block w.heap.size (by simp; omega)).trans ((heap_setCell_other _ _ _ _ (by simp)).trans HR8.out); have HB3 : Hid (Below w.heap.size w w3) := cthen (cset HB2.out (by omega) _ _) hb3; have HR3 : Hid (Row w3 v3 (dig K2)) := hr3; have z3 : w.heap.size + 1 < w3.heap.size := (by have := hb3.size; simp at this; omega); have p0 := rowcell R10 0; have p1 := rowcell R10 1; have p2 := rowcell R10 2; have p3 := rowcell R10 3; have p4 := rowcell R10 4; have p5 := rowcell R10 5; have pf := rowfree R10; simp only [List.getElem?_toArray, List.getElem?_cons_zero, List.getElem?_cons_succ] at p0 p1 p2 p3 p4 p5; have q0 := rowcell R8 0; have q1 := rowcell R8 1; have q2 := rowcell R8 2; have q3 := rowcell R8 3; have q4 := rowcell R8 4; have q5 := rowcell R8 5; have qf := rowfree R8; simp only [List.getElem?_toArray, List.getElem?_cons_zero, List.getElem?_cons_succ] at q0 q1 q2 q3 q4 q5; clear hr3 hb3)
      | (go_at_call 56; go_must (refine (k3 _ (HR.out.below (cmore (cmore (Below.refl _ _) _) _))).mono ?_); rintro e w2 ⟨v2, rfl, hr2, hb2⟩; have R10 := (hb2.block (w.heap.size + 1) (by simp)).trans (rownew' _ _ _ _ (by simp)); have R8 := (hb2.block w.heap.size (by simp; omega)).trans ((Below.heap_alloc _ _ _ (by simp)).trans (rownew' _ _ _ _ (by simp))); have HB2 : Hid (Below w.heap.size w w2) := cthen (cmore (cmore (Below.refl _ _) _) _) hb2; have HR2 : Hid (Row w2 v2 (dig K)) := hr2; have z2 : w.heap.size + 1 < w2.heap.size := (by have := hb2.size; simp at this; omega); have g0 := rowcell R10 0; have g1 := rowcell R10 1; have g2 := rowcell R10 2; have g3 := rowcell R10 3; have g4 := rowcell R10 4; have g5 := rowcell R10 5; have gf := rowfree R10; simp only [List.getElem?_toArray, List.getElem?_cons_zero, List.getElem?_cons_succ] at g0 g1 g2 g3 g4 g5; have h0 := rowcell R8 0; have h1 := rowcell R8 1; have h2 := rowcell R8 2; have h3 := rowcell R8 3; have h4 := rowcell R8 4; have h5 := rowcell R8 5; have hf := rowfree R8; simp only [List.getElem?_toArray, List.getElem?_cons_zero, List.getElem?_cons_succ] at h0 h1 h2 h3 h4 h5; have HR10 : Hid _ := R10; have HR8 : Hid _ := R8; clear hr2 hb2 R10 R8)
      | (go_at_call 57; go_must (refine (kw v2 _ HR2.out).mono ?_); rintro e wx ⟨rfl, hwx⟩; rw [hwx]; clear hwx wx))
    refine bodyPost_ret (v := .agg #[.int .i64 1, .bool neg, .int .i64 hx, .int .u64 hi, .int .u64 lo, .bool true]) (by simp [results, Try.results29, go_sem, q0, q1, q2, q3, q4, q5, qf]) rfl (hQ.out _ _ ⟨by simp, ?_⟩)
    exact cset6 (cset HB3.out (by omega) _ _) (Nat.le_refl _)
end Go.Proofs.Ytajlgpamcpgalaa
