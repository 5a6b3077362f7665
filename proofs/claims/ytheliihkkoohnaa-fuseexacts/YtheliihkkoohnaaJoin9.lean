import Derived.Test.YtheliihkkoohnaaJoin8
import Derived.Test.YtheliihkkoohnaaJoin6
namespace Go.Proofs.Ytheliihkkoohnaa
open Go.ChangeShapes Go.WideShapes Go.ChangeAt Go.RowKit
set_option linter.unusedVariables false
set_option linter.unusedSimpArgs false
set_option maxRecDepth 100000

/-! ### the document's sums of products -/
theorem soundX_v (n a : Nat) (hn : Wd n) (ha : a < 2 ^ 64) : soundX (vK n a) (vB n a) (vS n a) (vF n a) 0 false = true := by
  by_cases k1' : vK n a = 1
  · obtain ⟨_, _, _, _, _, _, wa, s1, s2⟩ := v_real n a hn ha k1'
    have hw := wd_le hn
    unfold soundX
    rw [k1', if_neg (by decide)]
    exact decide_eq_true ⟨rfl, wa.top, by omega, by omega⟩
  · obtain ⟨e1, e2, e3⟩ := v_other n a k1'
    unfold soundX
    rw [e1, e2, e3]
    rcases v_kinds n a hn with ⟨c, _⟩ | c | ⟨c, _⟩
    · rw [c]; rfl
    · exact absurd c k1'
    · rw [c]; rfl
/-- a product's parts, with what Sum asks of them -/
theorem prod_parts (n a b : Nat) (hn : Wd n) (ha : a < 2 ^ 64) (hb : b < 2 ^ 64) : ∃ K N S H L, prod10 (vK n a) (vB n a) (vS n a) (vF n a) (vK n b) (vB n b) (vS n b) (vF n b) = exV K N S H L false ∧
    soundX K N S H L false = true ∧ H < 2 ^ 64 ∧ L < 2 ^ 64 ∧ ((K = 2 ∧ (vK n a = 2 ∨ vK n b = 2)) ∨ (¬ (vK n a = 2 ∨ vK n b = 2) ∧ Prt (eN + eN) (valI n a * valI n b) K N S H L)) := by
  by_cases h : vK n a = 2 ∨ vK n b = 2
  · refine ⟨2, false, 0, 0, 0, ?_, rfl, by decide, by decide, .inl ⟨rfl, h⟩⟩
    unfold prod10; rw [if_pos h]
  · obtain ⟨K, N, S, H, L, e, hp⟩ := prod_prt n a b hn ha hb (fun c => h (.inl c)) (fun c => h (.inr c))
    exact ⟨K, N, S, H, L, e, hp.sound, hp.words.1, hp.words.2, .inr ⟨h, hp⟩⟩
theorem sum_parts {e T T' K K' : Int} {N N' : Bool} {S S' : Int} {H L H' L' : Nat} {A B : Prop} [Decidable A] [Decidable B] (h : (K = 2 ∧ A) ∨ (¬ A ∧ Prt e T K N S H L)) (h' : (K' = 2 ∧ B) ∨ (¬ B ∧ Prt e T' K' N' S' H' L')) :
    sum9 K N S H L K' N' S' H' L' = if A ∨ B then exV 2 false 0 0 0 false else exI (T + T') e := by
  rcases h with ⟨rfl, ha⟩ | ⟨ha, hp⟩
  · unfold sum9; rw [if_pos (.inl rfl), if_pos (.inl ha)]
  · rcases h' with ⟨rfl, hb⟩ | ⟨hb, hp'⟩
    · unfold sum9; rw [if_pos (.inr rfl), if_pos (.inr hb)]
    · rw [if_neg (by rintro (c | c); exact ha c; exact hb c), hp.sum hp']
theorem val_parts (n c : Nat) (hn : Wd n) (hc : c < 2 ^ 64) : (vK n c = 2 ∧ vK n c = 2) ∨ (¬ vK n c = 2 ∧ Prt (eN + eN) (valI n c * ((2 ^ 375 : Nat) : Int)) (vK n c) (vB n c) (vS n c) (vF n c) 0) := by
  by_cases h : vK n c = 2
  · exact .inl ⟨h, h⟩
  · exact .inr ⟨h, val_prt2 n c hn hc h⟩
theorem form_if {A : Prop} [Decidable A] {U V : Value} (h : ∃ k b s h l r, U = exV k b s h l r) (h' : ∃ k b s h l r, V = exV k b s h l r) : ∃ k b s h l r, (if A then U else V) = exV k b s h l r := by
  by_cases a : A
  · rw [if_pos a]; exact h
  · rw [if_neg a]; exact h'
set_option maxHeartbeats 2000000 in
theorem exact13_bad1 (k : Int) (neg : Bool) (s : Int) (hi lo : Nat) (rest : Bool) (k' : Int) (neg' : Bool) (s' : Int) (hi' lo' : Nat) (rest' : Bool) (h1 : soundX k neg s hi lo rest = false) (w : World) :
    Calls Try.prog 8 #[exV k neg s hi lo rest, exV k' neg' s' hi' lo' rest'] w fun e w' => e = .returned (.tuple #[exV 0 false 0 0 0 false, .int .i64 1]) ∧ Below w.heap.size w w' := by
  have k1 := sound7_any k neg s hi lo rest
  have k2 := sound7_any k' neg' s' hi' lo' rest'
  rw [h1] at k1
  clear h1
  generalize soundX k' neg' s' hi' lo' rest' = x2 at *
  unfold exV at *
  rw [show ((0 : Nat) : Int) = 0 from rfl] at *
  refine cps fun Q hQ => ?_
  go_enter Try.func8, Try.ntmps8
  go_wp2_with (first
    | (go_at_call_of 23 hi; go_must (refine (k1 _).mono ?_); rintro e w1 ⟨rfl, hb1⟩; have R1_0 := (hb1.block (w.heap.size) (by first | (simp; done) | (simp; omega) | omega)).trans ((Below.heap_alloc _ _ _ (by first | (simp; done) | (simp; omega) | omega)).trans ((Below.heap_alloc _ _ _ (by first | (simp; done) | (simp; omega) | omega)).trans (rownew' _ _ _ _ (by simp)))); have z1_0 : w.heap.size < w1.heap.size := Nat.lt_of_lt_of_le (by first | (simp; done) | (simp; omega) | omega) hb1.size; have HR1_0 : Hid _ := R1_0; clear R1_0; have R1_1 := (hb1.block (w.heap.size + 1) (by first | (simp; done) | (simp; omega) | omega)).trans ((Below.heap_alloc _ _ _ (by first | (simp; done) | (simp; omega) | omega)).trans (rownew' _ _ _ _ (by simp))); have z1_1 : w.heap.size + 1 < w1.heap.size := Nat.lt_of_lt_of_le (by first | (simp; done) | (simp; omega) | omega) hb1.size; have c1_1_0 := rowcell R1_1 0; have c1_1_1 := rowcell R1_1 1; have c1_1_2 := rowcell R1_1 2; have c1_1_3 := rowcell R1_1 3; have c1_1_4 := rowcell R1_1 4; have c1_1_5 := rowcell R1_1 5; simp only [List.getElem?_toArray, List.getElem?_cons_zero, List.getElem?_cons_succ] at c1_1_0 c1_1_1 c1_1_2 c1_1_3 c1_1_4 c1_1_5; have HR1_1 : Hid _ := R1_1; clear R1_1; have R1_2 := (hb1.block (w.heap.size + 1 + 1) (by first | (simp; done) | (simp; omega) | omega)).trans (rownew' _ _ _ _ (by simp)); have z1_2 : w.heap.size + 1 + 1 < w1.heap.size := Nat.lt_of_lt_of_le (by first | (simp; done) | (simp; omega) | omega) hb1.size; have HR1_2 : Hid _ := R1_2; clear R1_2; have HB1 : Hid (Below _ _ _) := hb1; clear hb1)
    | (go_at_call_of 23 hi'; go_must (refine (k2 _).mono ?_); rintro e w2 ⟨rfl, hb2⟩; have R2_0 := (hb2.block (w.heap.size) (by first | (simp; done) | (simp; omega) | omega)).trans HR1_0.out; have z2_0 : w.heap.size < w2.heap.size := Nat.lt_of_lt_of_le (by first | (simp; done) | (simp; omega) | omega) hb2.size; have c2_0_0 := rowcell R2_0 0; have c2_0_1 := rowcell R2_0 1; have c2_0_2 := rowcell R2_0 2; have c2_0_3 := rowcell R2_0 3; have c2_0_4 := rowcell R2_0 4; have c2_0_5 := rowcell R2_0 5; simp only [List.getElem?_toArray, List.getElem?_cons_zero, List.getElem?_cons_succ] at c2_0_0 c2_0_1 c2_0_2 c2_0_3 c2_0_4 c2_0_5; have HR2_0 : Hid _ := R2_0; clear R2_0; have R2_1 := (hb2.block (w.heap.size + 1) (by first | (simp; done) | (simp; omega) | omega)).trans HR1_1.out; have z2_1 : w.heap.size + 1 < w2.heap.size := Nat.lt_of_lt_of_le (by first | (simp; done) | (simp; omega) | omega) hb2.size; have c2_1_0 := rowcell R2_1 0; have c2_1_1 := rowcell R2_1 1; have c2_1_2 := rowcell R2_1 2; have c2_1_3 := rowcell R2_1 3; have c2_1_4 := rowcell R2_1 4; have c2_1_5 := rowcell R2_1 5; simp only [List.getElem?_toArray, List.getElem?_cons_zero, List.getElem?_cons_succ] at c2_1_0 c2_1_1 c2_1_2 c2_1_3 c2_1_4 c2_1_5; have HR2_1 : Hid _ := R2_1; clear R2_1; have R2_2 := (hb2.block (w.heap.size + 1 + 1) (by first | (simp; done) | (simp; omega) | omega)).trans HR1_2.out; have z2_2 : w.heap.size + 1 + 1 < w2.heap.size := Nat.lt_of_lt_of_le (by first | (simp; done) | (simp; omega) | omega) hb2.size; have c2_2_0 := rowcell R2_2 0; have c2_2_1 := rowcell R2_2 1; have c2_2_2 := rowcell R2_2 2; have c2_2_3 := rowcell R2_2 3; have c2_2_4 := rowcell R2_2 4; have c2_2_5 := rowcell R2_2 5; simp only [List.getElem?_toArray, List.getElem?_cons_zero, List.getElem?_cons_succ] at c2_2_0 c2_2_1 c2_2_2 c2_2_3 c2_2_4 c2_2_5; have rf2 := rowfree R2_2; have HR2_2 : Hid _ := R2_2; clear R2_2; have HB2 : Hid (Below _ _ _) := hb2; clear hb2))
  all_goals
    refine bodyPost_ret (v := .tuple #[.agg #[.int .i64 0, .bool false, .int .i64 0, .int .u64 0, .int .u64 0, .bool false], .int .i64 1]) (by simp [results, Try.results8, go_sem, rf2, z2_2, c2_2_0, c2_2_1, c2_2_2, c2_2_3, c2_2_4, c2_2_5]) rfl (hQ.out _ _ ⟨by simp, ?_⟩)
    exact cset6 (cthen (cthen (cmore (cmore (cmore (Below.refl _ _) _) _) _) HB1.out) HB2.out) (by omega)
set_option maxHeartbeats 2000000 in
theorem exact13_bad2 (k : Int) (neg : Bool) (s : Int) (hi lo : Nat) (rest : Bool) (k' : Int) (neg' : Bool) (s' : Int) (hi' lo' : Nat) (rest' : Bool) (h1 : soundX k neg s hi lo rest = true) (h2 : soundX k' neg' s' hi' lo' rest' = false) (w : World) :
    Calls Try.prog 8 #[exV k neg s hi lo rest, exV k' neg' s' hi' lo' rest'] w fun e w' => e = .returned (.tuple #[exV 0 false 0 0 0 false, .int .i64 1]) ∧ Below w.heap.size w w' := by
  have k1 := sound7_any k neg s hi lo rest
  have k2 := sound7_any k' neg' s' hi' lo' rest'
  rw [h1] at k1
  rw [h2] at k2
  clear h1 h2
  unfold exV at *
  rw [show ((0 : Nat) : Int) = 0 from rfl] at *
  refine cps fun Q hQ => ?_
  go_enter Try.func8, Try.ntmps8
  go_wp2_with (first
    | (go_at_call_of 23 hi; go_must (refine (k1 _).mono ?_); rintro e w1 ⟨rfl, hb1⟩; have R1_0 := (hb1.block (w.heap.size) (by first | (simp; done) | (simp; omega) | omega)).trans ((Below.heap_alloc _ _ _ (by first | (simp; done) | (simp; omega) | omega)).trans ((Below.heap_alloc _ _ _ (by first | (simp; done) | (simp; omega) | omega)).trans (rownew' _ _ _ _ (by simp)))); have z1_0 : w.heap.size < w1.heap.size := Nat.lt_of_lt_of_le (by first | (simp; done) | (simp; omega) | omega) hb1.size; have HR1_0 : Hid _ := R1_0; clear R1_0; have R1_1 := (hb1.block (w.heap.size + 1) (by first | (simp; done) | (simp; omega) | omega)).trans ((Below.heap_alloc _ _ _ (by first | (simp; done) | (simp; omega) | omega)).trans (rownew' _ _ _ _ (by simp))); have z1_1 : w.heap.size + 1 < w1.heap.size := Nat.lt_of_lt_of_le (by first | (simp; done) | (simp; omega) | omega) hb1.size; have c1_1_0 := rowcell R1_1 0; have c1_1_1 := rowcell R1_1 1; have c1_1_2 := rowcell R1_1 2; have c1_1_3 := rowcell R1_1 3; have c1_1_4 := rowcell R1_1 4; have c1_1_5 := rowcell R1_1 5; simp only [List.getElem?_toArray, List.getElem?_cons_zero, List.getElem?_cons_succ] at c1_1_0 c1_1_1 c1_1_2 c1_1_3 c1_1_4 c1_1_5; have HR1_1 : Hid _ := R1_1; clear R1_1; have R1_2 := (hb1.block (w.heap.size + 1 + 1) (by first | (simp; done) | (simp; omega) | omega)).trans (rownew' _ _ _ _ (by simp)); have z1_2 : w.heap.size + 1 + 1 < w1.heap.size := Nat.lt_of_lt_of_le (by first | (simp; done) | (simp; omega) | omega) hb1.size; have HR1_2 : Hid _ := R1_2; clear R1_2; have HB1 : Hid (Below _ _ _) := hb1; clear hb1)
    | (go_at_call_of 23 hi'; go_must (refine (k2 _).mono ?_); rintro e w2 ⟨rfl, hb2⟩; have R2_0 := (hb2.block (w.heap.size) (by first | (simp; done) | (simp; omega) | omega)).trans HR1_0.out; have z2_0 : w.heap.size < w2.heap.size := Nat.lt_of_lt_of_le (by first | (simp; done) | (simp; omega) | omega) hb2.size; have c2_0_0 := rowcell R2_0 0; have c2_0_1 := rowcell R2_0 1; have c2_0_2 := rowcell R2_0 2; have c2_0_3 := rowcell R2_0 3; have c2_0_4 := rowcell R2_0 4; have c2_0_5 := rowcell R2_0 5; simp only [List.getElem?_toArray, List.getElem?_cons_zero, List.getElem?_cons_succ] at c2_0_0 c2_0_1 c2_0_2 c2_0_3 c2_0_4 c2_0_5; have HR2_0 : Hid _ := R2_0; clear R2_0; have R2_1 := (hb2.block (w.heap.size + 1) (by first | (simp; done) | (simp; omega) | omega)).trans HR1_1.out; have z2_1 : w.heap.size + 1 < w2.heap.size := Nat.lt_of_lt_of_le (by first | (simp; done) | (simp; omega) | omega) hb2.size; have c2_1_0 := rowcell R2_1 0; have c2_1_1 := rowcell R2_1 1; have c2_1_2 := rowcell R2_1 2; have c2_1_3 := rowcell R2_1 3; have c2_1_4 := rowcell R2_1 4; have c2_1_5 := rowcell R2_1 5; simp only [List.getElem?_toArray, List.getElem?_cons_zero, List.getElem?_cons_succ] at c2_1_0 c2_1_1 c2_1_2 c2_1_3 c2_1_4 c2_1_5; have HR2_1 : Hid _ := R2_1; clear R2_1; have R2_2 := (hb2.block (w.heap.size + 1 + 1) (by first | (simp; done) | (simp; omega) | omega)).trans HR1_2.out; have z2_2 : w.heap.size + 1 + 1 < w2.heap.size := Nat.lt_of_lt_of_le (by first | (simp; done) | (simp; omega) | omega) hb2.size; have c2_2_0 := rowcell R2_2 0; have c2_2_1 := rowcell R2_2 1; have c2_2_2 := rowcell R2_2 2; have c2_2_3 := rowcell R2_2 3; have c2_2_4 := rowcell R2_2 4; have c2_2_5 := rowcell R2_2 5; simp only [List.getElem?_toArray, List.getElem?_cons_zero, List.getElem?_cons_succ] at c2_2_0 c2_2_1 c2_2_2 c2_2_3 c2_2_4 c2_2_5; have rf2 := rowfree R2_2; have HR2_2 : Hid _ := R2_2; clear R2_2; have HB2 : Hid (Below _ _ _) := hb2; clear hb2))
  all_goals
    refine bodyPost_ret (v := .tuple #[.agg #[.int .i64 0, .bool false, .int .i64 0, .int .u64 0, .int .u64 0, .bool false], .int .i64 1]) (by simp [results, Try.results8, go_sem, rf2, z2_2, c2_2_0, c2_2_1, c2_2_2, c2_2_3, c2_2_4, c2_2_5]) rfl (hQ.out _ _ ⟨by simp, ?_⟩)
    exact cset6 (cthen (cthen (cmore (cmore (cmore (Below.refl _ _) _) _) _) HB1.out) HB2.out) (by omega)
set_option maxHeartbeats 2000000 in
theorem exact13_bad3 (k : Int) (neg : Bool) (s : Int) (hi lo : Nat) (rest : Bool) (k' : Int) (neg' : Bool) (s' : Int) (hi' lo' : Nat) (rest' : Bool) (h1 : soundX k neg s hi lo rest = true) (h2 : soundX k' neg' s' hi' lo' rest' = true) (h3 : rest = true) (w : World) :
    Calls Try.prog 8 #[exV k neg s hi lo rest, exV k' neg' s' hi' lo' rest'] w fun e w' => e = .returned (.tuple #[exV 0 false 0 0 0 false, .int .i64 1]) ∧ Below w.heap.size w w' := by
  have k1 := sound7_any k neg s hi lo rest
  have k2 := sound7_any k' neg' s' hi' lo' rest'
  rw [h1] at k1
  rw [h2] at k2
  clear h1 h2
  subst h3
  unfold exV at *
  rw [show ((0 : Nat) : Int) = 0 from rfl] at *
  refine cps fun Q hQ => ?_
  go_enter Try.func8, Try.ntmps8
  go_wp2_with (first
    | (go_at_call_of 23 hi; go_must (refine (k1 _).mono ?_); rintro e w1 ⟨rfl, hb1⟩; have R1_0 := (hb1.block (w.heap.size) (by first | (simp; done) | (simp; omega) | omega)).trans ((Below.heap_alloc _ _ _ (by first | (simp; done) | (simp; omega) | omega)).trans ((Below.heap_alloc _ _ _ (by first | (simp; done) | (simp; omega) | omega)).trans (rownew' _ _ _ _ (by simp)))); have z1_0 : w.heap.size < w1.heap.size := Nat.lt_of_lt_of_le (by first | (simp; done) | (simp; omega) | omega) hb1.size; have HR1_0 : Hid _ := R1_0; clear R1_0; have R1_1 := (hb1.block (w.heap.size + 1) (by first | (simp; done) | (simp; omega) | omega)).trans ((Below.heap_alloc _ _ _ (by first | (simp; done) | (simp; omega) | omega)).trans (rownew' _ _ _ _ (by simp))); have z1_1 : w.heap.size + 1 < w1.heap.size := Nat.lt_of_lt_of_le (by first | (simp; done) | (simp; omega) | omega) hb1.size; have c1_1_0 := rowcell R1_1 0; have c1_1_1 := rowcell R1_1 1; have c1_1_2 := rowcell R1_1 2; have c1_1_3 := rowcell R1_1 3; have c1_1_4 := rowcell R1_1 4; have c1_1_5 := rowcell R1_1 5; simp only [List.getElem?_toArray, List.getElem?_cons_zero, List.getElem?_cons_succ] at c1_1_0 c1_1_1 c1_1_2 c1_1_3 c1_1_4 c1_1_5; have HR1_1 : Hid _ := R1_1; clear R1_1; have R1_2 := (hb1.block (w.heap.size + 1 + 1) (by first | (simp; done) | (simp; omega) | omega)).trans (rownew' _ _ _ _ (by simp)); have z1_2 : w.heap.size + 1 + 1 < w1.heap.size := Nat.lt_of_lt_of_le (by first | (simp; done) | (simp; omega) | omega) hb1.size; have HR1_2 : Hid _ := R1_2; clear R1_2; have HB1 : Hid (Below _ _ _) := hb1; clear hb1)
    | (go_at_call_of 23 hi'; go_must (refine (k2 _).mono ?_); rintro e w2 ⟨rfl, hb2⟩; have R2_0 := (hb2.block (w.heap.size) (by first | (simp; done) | (simp; omega) | omega)).trans HR1_0.out; have z2_0 : w.heap.size < w2.heap.size := Nat.lt_of_lt_of_le (by first | (simp; done) | (simp; omega) | omega) hb2.size; have c2_0_0 := rowcell R2_0 0; have c2_0_1 := rowcell R2_0 1; have c2_0_2 := rowcell R2_0 2; have c2_0_3 := rowcell R2_0 3; have c2_0_4 := rowcell R2_0 4; have c2_0_5 := rowcell R2_0 5; simp only [List.getElem?_toArray, List.getElem?_cons_zero, List.getElem?_cons_succ] at c2_0_0 c2_0_1 c2_0_2 c2_0_3 c2_0_4 c2_0_5; have HR2_0 : Hid _ := R2_0; clear R2_0; have R2_1 := (hb2.block (w.heap.size + 1) (by first | (simp; done) | (simp; omega) | omega)).trans HR1_1.out; have z2_1 : w.heap.size + 1 < w2.heap.size := Nat.lt_of_lt_of_le (by first | (simp; done) | (simp; omega) | omega) hb2.size; have c2_1_0 := rowcell R2_1 0; have c2_1_1 := rowcell R2_1 1; have c2_1_2 := rowcell R2_1 2; have c2_1_3 := rowcell R2_1 3; have c2_1_4 := rowcell R2_1 4; have c2_1_5 := rowcell R2_1 5; simp only [List.getElem?_toArray, List.getElem?_cons_zero, List.getElem?_cons_succ] at c2_1_0 c2_1_1 c2_1_2 c2_1_3 c2_1_4 c2_1_5; have HR2_1 : Hid _ := R2_1; clear R2_1; have R2_2 := (hb2.block (w.heap.size + 1 + 1) (by first | (simp; done) | (simp; omega) | omega)).trans HR1_2.out; have z2_2 : w.heap.size + 1 + 1 < w2.heap.size := Nat.lt_of_lt_of_le (by first | (simp; done) | (simp; omega) | omega) hb2.size; have c2_2_0 := rowcell R2_2 0; have c2_2_1 := rowcell R2_2 1; have c2_2_2 := rowcell R2_2 2; have c2_2_3 := rowcell R2_2 3; have c2_2_4 := rowcell R2_2 4; have c2_2_5 := rowcell R2_2 5; simp only [List.getElem?_toArray, List.getElem?_cons_zero, List.getElem?_cons_succ] at c2_2_0 c2_2_1 c2_2_2 c2_2_3 c2_2_4 c2_2_5; have rf2 := rowfree R2_2; have HR2_2 : Hid _ := R2_2; clear R2_2; have HB2 : Hid (Below _ _ _) := hb2; clear hb2))
  all_goals
    refine bodyPost_ret (v := .tuple #[.agg #[.int .i64 0, .bool false, .int .i64 0, .int .u64 0, .int .u64 0, .bool false], .int .i64 1]) (by simp [results, Try.results8, go_sem, rf2, z2_2, c2_2_0, c2_2_1, c2_2_2, c2_2_3, c2_2_4, c2_2_5]) rfl (hQ.out _ _ ⟨by simp, ?_⟩)
    exact cset6 (cthen (cthen (cmore (cmore (cmore (Below.refl _ _) _) _) _) HB1.out) HB2.out) (by omega)
set_option maxHeartbeats 2000000 in
theorem exact13_bad4 (k : Int) (neg : Bool) (s : Int) (hi lo : Nat) (rest : Bool) (k' : Int) (neg' : Bool) (s' : Int) (hi' lo' : Nat) (rest' : Bool) (h1 : soundX k neg s hi lo rest = true) (h2 : soundX k' neg' s' hi' lo' rest' = true) (h3 : rest = false) (h4 : rest' = true) (w : World) :
    Calls Try.prog 8 #[exV k neg s hi lo rest, exV k' neg' s' hi' lo' rest'] w fun e w' => e = .returned (.tuple #[exV 0 false 0 0 0 false, .int .i64 1]) ∧ Below w.heap.size w w' := by
  have k1 := sound7_any k neg s hi lo rest
  have k2 := sound7_any k' neg' s' hi' lo' rest'
  rw [h1] at k1
  rw [h2] at k2
  clear h1 h2
  subst h3 h4
  unfold exV at *
  rw [show ((0 : Nat) : Int) = 0 from rfl] at *
  refine cps fun Q hQ => ?_
  go_enter Try.func8, Try.ntmps8
  go_wp2_with (first
    | (go_at_call_of 23 hi; go_must (refine (k1 _).mono ?_); rintro e w1 ⟨rfl, hb1⟩; have R1_0 := (hb1.block (w.heap.size) (by first | (simp; done) | (simp; omega) | omega)).trans ((Below.heap_alloc _ _ _ (by first | (simp; done) | (simp; omega) | omega)).trans ((Below.heap_alloc _ _ _ (by first | (simp; done) | (simp; omega) | omega)).trans (rownew' _ _ _ _ (by simp)))); have z1_0 : w.heap.size < w1.heap.size := Nat.lt_of_lt_of_le (by first | (simp; done) | (simp; omega) | omega) hb1.size; have HR1_0 : Hid _ := R1_0; clear R1_0; have R1_1 := (hb1.block (w.heap.size + 1) (by first | (simp; done) | (simp; omega) | omega)).trans ((Below.heap_alloc _ _ _ (by first | (simp; done) | (simp; omega) | omega)).trans (rownew' _ _ _ _ (by simp))); have z1_1 : w.heap.size + 1 < w1.heap.size := Nat.lt_of_lt_of_le (by first | (simp; done) | (simp; omega) | omega) hb1.size; have c1_1_0 := rowcell R1_1 0; have c1_1_1 := rowcell R1_1 1; have c1_1_2 := rowcell R1_1 2; have c1_1_3 := rowcell R1_1 3; have c1_1_4 := rowcell R1_1 4; have c1_1_5 := rowcell R1_1 5; simp only [List.getElem?_toArray, List.getElem?_cons_zero, List.getElem?_cons_succ] at c1_1_0 c1_1_1 c1_1_2 c1_1_3 c1_1_4 c1_1_5; have HR1_1 : Hid _ := R1_1; clear R1_1; have R1_2 := (hb1.block (w.heap.size + 1 + 1) (by first | (simp; done) | (simp; omega) | omega)).trans (rownew' _ _ _ _ (by simp)); have z1_2 : w.heap.size + 1 + 1 < w1.heap.size := Nat.lt_of_lt_of_le (by first | (simp; done) | (simp; omega) | omega) hb1.size; have HR1_2 : Hid _ := R1_2; clear R1_2; have HB1 : Hid (Below _ _ _) := hb1; clear hb1)
    | (go_at_call_of 23 hi'; go_must (refine (k2 _).mono ?_); rintro e w2 ⟨rfl, hb2⟩; have R2_0 := (hb2.block (w.heap.size) (by first | (simp; done) | (simp; omega) | omega)).trans HR1_0.out; have z2_0 : w.heap.size < w2.heap.size := Nat.lt_of_lt_of_le (by first | (simp; done) | (simp; omega) | omega) hb2.size; have c2_0_0 := rowcell R2_0 0; have c2_0_1 := rowcell R2_0 1; have c2_0_2 := rowcell R2_0 2; have c2_0_3 := rowcell R2_0 3; have c2_0_4 := rowcell R2_0 4; have c2_0_5 := rowcell R2_0 5; simp only [List.getElem?_toArray, List.getElem?_cons_zero, List.getElem?_cons_succ] at c2_0_0 c2_0_1 c2_0_2 c2_0_3 c2_0_4 c2_0_5; have HR2_0 : Hid _ := R2_0; clear R2_0; have R2_1 := (hb2.block (w.heap.size + 1) (by first | (simp; done) | (simp; omega) | omega)).trans HR1_1.out; have z2_1 : w.heap.size + 1 < w2.heap.size := Nat.lt_of_lt_of_le (by first | (simp; done) | (simp; omega) | omega) hb2.size; have c2_1_0 := rowcell R2_1 0; have c2_1_1 := rowcell R2_1 1; have c2_1_2 := rowcell R2_1 2; have c2_1_3 := rowcell R2_1 3; have c2_1_4 := rowcell R2_1 4; have c2_1_5 := rowcell R2_1 5; simp only [List.getElem?_toArray, List.getElem?_cons_zero, List.getElem?_cons_succ] at c2_1_0 c2_1_1 c2_1_2 c2_1_3 c2_1_4 c2_1_5; have HR2_1 : Hid _ := R2_1; clear R2_1; have R2_2 := (hb2.block (w.heap.size + 1 + 1) (by first | (simp; done) | (simp; omega) | omega)).trans HR1_2.out; have z2_2 : w.heap.size + 1 + 1 < w2.heap.size := Nat.lt_of_lt_of_le (by first | (simp; done) | (simp; omega) | omega) hb2.size; have c2_2_0 := rowcell R2_2 0; have c2_2_1 := rowcell R2_2 1; have c2_2_2 := rowcell R2_2 2; have c2_2_3 := rowcell R2_2 3; have c2_2_4 := rowcell R2_2 4; have c2_2_5 := rowcell R2_2 5; simp only [List.getElem?_toArray, List.getElem?_cons_zero, List.getElem?_cons_succ] at c2_2_0 c2_2_1 c2_2_2 c2_2_3 c2_2_4 c2_2_5; have rf2 := rowfree R2_2; have HR2_2 : Hid _ := R2_2; clear R2_2; have HB2 : Hid (Below _ _ _) := hb2; clear hb2))
  all_goals
    refine bodyPost_ret (v := .tuple #[.agg #[.int .i64 0, .bool false, .int .i64 0, .int .u64 0, .int .u64 0, .bool false], .int .i64 1]) (by simp [results, Try.results8, go_sem, rf2, z2_2, c2_2_0, c2_2_1, c2_2_2, c2_2_3, c2_2_4, c2_2_5]) rfl (hQ.out _ _ ⟨by simp, ?_⟩)
    exact cset6 (cthen (cthen (cmore (cmore (cmore (Below.refl _ _) _) _) _) HB1.out) HB2.out) (by omega)
set_option maxHeartbeats 2000000 in
theorem exact13_good (k : Int) (neg : Bool) (s : Int) (hi lo : Nat) (rest : Bool) (k' : Int) (neg' : Bool) (s' : Int) (hi' lo' : Nat) (rest' : Bool) (hh : hi < 2 ^ 64) (hl : lo < 2 ^ 64) (hh' : hi' < 2 ^ 64) (hl' : lo' < 2 ^ 64) (h1 : soundX k neg s hi lo rest = true) (h2 : soundX k' neg' s' hi' lo' rest' = true) (h3 : rest = false) (h4 : rest' = false) (w : World) :
    Calls Try.prog 8 #[exV k neg s hi lo rest, exV k' neg' s' hi' lo' rest'] w fun e w' => e = .returned (.tuple #[sum9 k neg s hi lo k' neg' s' hi' lo', .int .i64 0]) ∧ Below w.heap.size w w' := by
  have k1 := sound7_any k neg s hi lo rest
  have k2 := sound7_any k' neg' s' hi' lo' rest'
  rw [h1] at k1
  rw [h2] at k2
  subst h3 h4
  have k3 := sum9_any k neg s hi lo k' neg' s' hi' lo' hh hl hh' hl' h1 h2
  obtain ⟨K, B, S, H, L, R, hform⟩ := sum9_form k neg s hi lo k' neg' s' hi' lo'
  rw [hform] at k3 ⊢
  clear h1 h2 hform
  unfold exV at *
  refine cps fun Q hQ => ?_
  go_enter Try.func8, Try.ntmps8
  go_wp2_with (first
    | (go_at_call_of 23 hi; go_must (refine (k1 _).mono ?_); rintro e w1 ⟨rfl, hb1⟩; have R1_0 := (hb1.block (w.heap.size) (by first | (simp; done) | (simp; omega) | omega)).trans ((Below.heap_alloc _ _ _ (by first | (simp; done) | (simp; omega) | omega)).trans ((Below.heap_alloc _ _ _ (by first | (simp; done) | (simp; omega) | omega)).trans (rownew' _ _ _ _ (by simp)))); have z1_0 : w.heap.size < w1.heap.size := Nat.lt_of_lt_of_le (by first | (simp; done) | (simp; omega) | omega) hb1.size; have HR1_0 : Hid _ := R1_0; clear R1_0; have R1_1 := (hb1.block (w.heap.size + 1) (by first | (simp; done) | (simp; omega) | omega)).trans ((Below.heap_alloc _ _ _ (by first | (simp; done) | (simp; omega) | omega)).trans (rownew' _ _ _ _ (by simp))); have z1_1 : w.heap.size + 1 < w1.heap.size := Nat.lt_of_lt_of_le (by first | (simp; done) | (simp; omega) | omega) hb1.size; have c1_1_0 := rowcell R1_1 0; have c1_1_1 := rowcell R1_1 1; have c1_1_2 := rowcell R1_1 2; have c1_1_3 := rowcell R1_1 3; have c1_1_4 := rowcell R1_1 4; have c1_1_5 := rowcell R1_1 5; simp only [List.getElem?_toArray, List.getElem?_cons_zero, List.getElem?_cons_succ] at c1_1_0 c1_1_1 c1_1_2 c1_1_3 c1_1_4 c1_1_5; have HR1_1 : Hid _ := R1_1; clear R1_1; have R1_2 := (hb1.block (w.heap.size + 1 + 1) (by first | (simp; done) | (simp; omega) | omega)).trans (rownew' _ _ _ _ (by simp)); have z1_2 : w.heap.size + 1 + 1 < w1.heap.size := Nat.lt_of_lt_of_le (by first | (simp; done) | (simp; omega) | omega) hb1.size; have HR1_2 : Hid _ := R1_2; clear R1_2; have HB1 : Hid (Below _ _ _) := hb1; clear hb1)
    | (go_at_call_of 23 hi'; go_must (refine (k2 _).mono ?_); rintro e w2 ⟨rfl, hb2⟩; have R2_0 := (hb2.block (w.heap.size) (by first | (simp; done) | (simp; omega) | omega)).trans HR1_0.out; have z2_0 : w.heap.size < w2.heap.size := Nat.lt_of_lt_of_le (by first | (simp; done) | (simp; omega) | omega) hb2.size; have c2_0_0 := rowcell R2_0 0; have c2_0_1 := rowcell R2_0 1; have c2_0_2 := rowcell R2_0 2; have c2_0_3 := rowcell R2_0 3; have c2_0_4 := rowcell R2_0 4; have c2_0_5 := rowcell R2_0 5; simp only [List.getElem?_toArray, List.getElem?_cons_zero, List.getElem?_cons_succ] at c2_0_0 c2_0_1 c2_0_2 c2_0_3 c2_0_4 c2_0_5; have HR2_0 : Hid _ := R2_0; clear R2_0; have R2_1 := (hb2.block (w.heap.size + 1) (by first | (simp; done) | (simp; omega) | omega)).trans HR1_1.out; have z2_1 : w.heap.size + 1 < w2.heap.size := Nat.lt_of_lt_of_le (by first | (simp; done) | (simp; omega) | omega) hb2.size; have c2_1_0 := rowcell R2_1 0; have c2_1_1 := rowcell R2_1 1; have c2_1_2 := rowcell R2_1 2; have c2_1_3 := rowcell R2_1 3; have c2_1_4 := rowcell R2_1 4; have c2_1_5 := rowcell R2_1 5; simp only [List.getElem?_toArray, List.getElem?_cons_zero, List.getElem?_cons_succ] at c2_1_0 c2_1_1 c2_1_2 c2_1_3 c2_1_4 c2_1_5; have HR2_1 : Hid _ := R2_1; clear R2_1; have R2_2 := (hb2.block (w.heap.size + 1 + 1) (by first | (simp; done) | (simp; omega) | omega)).trans HR1_2.out; have z2_2 : w.heap.size + 1 + 1 < w2.heap.size := Nat.lt_of_lt_of_le (by first | (simp; done) | (simp; omega) | omega) hb2.size; have c2_2_0 := rowcell R2_2 0; have c2_2_1 := rowcell R2_2 1; have c2_2_2 := rowcell R2_2 2; have c2_2_3 := rowcell R2_2 3; have c2_2_4 := rowcell R2_2 4; have c2_2_5 := rowcell R2_2 5; simp only [List.getElem?_toArray, List.getElem?_cons_zero, List.getElem?_cons_succ] at c2_2_0 c2_2_1 c2_2_2 c2_2_3 c2_2_4 c2_2_5; have rf2 := rowfree R2_2; have HR2_2 : Hid _ := R2_2; clear R2_2; have HB2 : Hid (Below _ _ _) := hb2; clear hb2)
    | (go_at_call 24; go_must (refine (k3 _).mono ?_); rintro e w3 ⟨rfl, hb3⟩; have R3_0 := (hb3.block (w.heap.size) (by first | (simp; done) | (simp; omega) | omega)).trans HR2_0.out; have z3_0 : w.heap.size < w3.heap.size := Nat.lt_of_lt_of_le (by first | (simp; done) | (simp; omega) | omega) hb3.size; have HR3_0 : Hid _ := R3_0; clear R3_0; have R3_1 := (hb3.block (w.heap.size + 1) (by first | (simp; done) | (simp; omega) | omega)).trans HR2_1.out; have z3_1 : w.heap.size + 1 < w3.heap.size := Nat.lt_of_lt_of_le (by first | (simp; done) | (simp; omega) | omega) hb3.size; have HR3_1 : Hid _ := R3_1; clear R3_1; have R3_2 := (hb3.block (w.heap.size + 1 + 1) (by first | (simp; done) | (simp; omega) | omega)).trans HR2_2.out; have z3_2 : w.heap.size + 1 + 1 < w3.heap.size := Nat.lt_of_lt_of_le (by first | (simp; done) | (simp; omega) | omega) hb3.size; have c3_2_0 := rowcell R3_2 0; have c3_2_1 := rowcell R3_2 1; have c3_2_2 := rowcell R3_2 2; have c3_2_3 := rowcell R3_2 3; have c3_2_4 := rowcell R3_2 4; have c3_2_5 := rowcell R3_2 5; simp only [List.getElem?_toArray, List.getElem?_cons_zero, List.getElem?_cons_succ] at c3_2_0 c3_2_1 c3_2_2 c3_2_3 c3_2_4 c3_2_5; have rf3 := rowfree R3_2; have HR3_2 : Hid _ := R3_2; clear R3_2; have HB3 : Hid (Below _ _ _) := hb3; clear hb3))
  all_goals
    refine bodyPost_ret (v := .tuple #[.agg #[.int .i64 K, .bool B, .int .i64 S, .int .u64 H, .int .u64 L, .bool R], .int .i64 0]) (by simp [results, Try.results8, go_sem, rf3, z3_2, c3_2_0, c3_2_1, c3_2_2, c3_2_3, c3_2_4, c3_2_5]) rfl (hQ.out _ _ ⟨by simp, ?_⟩)
    exact cset6 (cthen (cthen (cthen (cmore (cmore (cmore (Below.refl _ _) _) _) _) HB1.out) HB2.out) HB3.out) (by omega)
theorem exact13_bad (k : Int) (neg : Bool) (s : Int) (hi lo : Nat) (rest : Bool) (k' : Int) (neg' : Bool) (s' : Int) (hi' lo' : Nat) (rest' : Bool) (h : (soundX k neg s hi lo rest && (soundX k' neg' s' hi' lo' rest' && (!rest && !rest'))) = false) (w : World) :
    Calls Try.prog 8 #[exV k neg s hi lo rest, exV k' neg' s' hi' lo' rest'] w fun e w' => e = .returned (.tuple #[exV 0 false 0 0 0 false, .int .i64 1]) ∧ Below w.heap.size w w' := by
  cases h1 : soundX k neg s hi lo rest
  · exact exact13_bad1 k neg s hi lo rest k' neg' s' hi' lo' rest' h1 w
  · cases h2 : soundX k' neg' s' hi' lo' rest'
    · exact exact13_bad2 k neg s hi lo rest k' neg' s' hi' lo' rest' h1 h2 w
    · cases h3 : rest
      · cases h4 : rest'
        · rw [h1, h2, h3, h4] at h; exact absurd h (by decide)
        · rw [h3] at h1; rw [h4] at h2
          exact exact13_bad4 k neg s hi lo false k' neg' s' hi' lo' true h1 h2 rfl rfl w
      · rw [h3] at h1
        exact exact13_bad3 k neg s hi lo true k' neg' s' hi' lo' rest' h1 h2 rfl w
theorem exact13_ok (k : Int) (neg : Bool) (s : Int) (hi lo : Nat) (rest : Bool) (k' : Int) (neg' : Bool) (s' : Int) (hi' lo' : Nat) (rest' : Bool) (hh : hi < 2 ^ 64) (hl : lo < 2 ^ 64) (hh' : hi' < 2 ^ 64) (hl' : lo' < 2 ^ 64) (h : (soundX k neg s hi lo rest && (soundX k' neg' s' hi' lo' rest' && (!rest && !rest'))) = true) (w : World) :
    Calls Try.prog 8 #[exV k neg s hi lo rest, exV k' neg' s' hi' lo' rest'] w fun e w' => e = .returned (.tuple #[sum9 k neg s hi lo k' neg' s' hi' lo', .int .i64 0]) ∧ Below w.heap.size w w' := by
  obtain ⟨h1, h⟩ := Bool.and_eq_true_iff.1 h
  obtain ⟨h2, h⟩ := Bool.and_eq_true_iff.1 h
  obtain ⟨h3, h4⟩ := Bool.and_eq_true_iff.1 h
  have h3 : rest = false := by cases rest; rfl; exact absurd h3 (by decide)
  have h4 : rest' = false := by cases rest'; rfl; exact absurd h4 (by decide)
  exact exact13_good k neg s hi lo rest k' neg' s' hi' lo' rest' hh hl hh' hl' h1 h2 h3 h4 w
theorem patF_if (n a b c : Nat) : patF n a b c = if (vK n a = 2 ∨ vK n b = 2) ∨ vK n c = 2 then 2 ^ (n - 1) else patI n (valI n a * valI n b + valI n c * ((2 ^ 375 : Nat) : Int)) (eN + eN) := by
  unfold patF
  by_cases h : (vK n a = 2 ∨ vK n b = 2) ∨ vK n c = 2
  · rw [if_pos h, if_pos (by rcases h with (h | h) | h <;> simp [h])]
  · rw [if_neg h, if_neg (by rintro (q | q | q) <;> exact h (by simp [q]))]
theorem patX_if (n a b c d : Nat) : patX n a b c d = if (vK n a = 2 ∨ vK n b = 2) ∨ (vK n c = 2 ∨ vK n d = 2) then 2 ^ (n - 1) else patI n (valI n a * valI n b + valI n c * valI n d) (eN + eN) := by
  unfold patX
  by_cases h : (vK n a = 2 ∨ vK n b = 2) ∨ (vK n c = 2 ∨ vK n d = 2)
  · rw [if_pos h, if_pos (by rcases h with (h | h) | (h | h) <;> simp [h])]
  · rw [if_neg h, if_neg (by rintro (q | q | q | q) <;> exact h (by simp [q]))]
theorem patH_if (n a b : Nat) : patH n a b = if (vK n a = 2 ∨ vK n a = 2) ∨ (vK n b = 2 ∨ vK n b = 2) then 2 ^ (n - 1) else patG n (valI n a * valI n a + valI n b * valI n b) (eN + eN) := by
  unfold patH
  by_cases h : (vK n a = 2 ∨ vK n a = 2) ∨ (vK n b = 2 ∨ vK n b = 2)
  · rw [if_pos h, if_pos (by rcases h with (h | h) | (h | h) <;> simp [h])]
  · rw [if_neg h, if_neg (by rintro (q | q) <;> exact h (by simp [q]))]
theorem exI_form' (T e : Int) : ∃ k b s h l r, exI T e = exV k b s h l r := exactV_form _ _ _ _
theorem sq_nonneg' (x y : Int) : 0 ≤ x * x + y * y := by
  have h : ∀ z : Int, 0 ≤ z * z := fun z => by
    rcases Int.le_total 0 z with c | c
    · exact Int.mul_nonneg c c
    · exact Int.mul_nonneg_of_nonpos_of_nonpos c c
  have := h x
  have := h y
  omega
end Go.Proofs.Ytheliihkkoohnaa
