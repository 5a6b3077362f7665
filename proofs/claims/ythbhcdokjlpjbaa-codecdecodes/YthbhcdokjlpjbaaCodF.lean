import Derived.Test.YthbhcdokjlpjbaaCodE
namespace Go.Proofs.Ythbhcdokjlpjbaa
open Go.ChangeShapes Go.WideShapes Go.ChangeAt Go.RowKit
set_option linter.unusedVariables false
set_option linter.unusedSimpArgs false
set_option maxRecDepth 100000

/-! ### which Nums are sound -/
def soundN (k : Int) (neg : Bool) (s : Int) (f : Nat) : Bool :=
  if k = 0 ∨ k = 2 then decide (neg = false ∧ s = 0 ∧ f = 0) else decide (k = 1 ∧ 9223372036854775808 ≤ f ∧ -1073741824 ≤ s ∧ s ≤ 1073741824)
theorem sound6_any (k : Int) (neg : Bool) (s : Int) (f : Nat) (w : World) :
    Calls Try.prog 39 #[numV k neg s f] w fun e w' => e = .returned (.bool (soundN k neg s f)) ∧ Below w.heap.size w w' := by
  unfold numV soundN
  refine cps fun Q hQ => ?_
  by_cases h0 : k = 0
  · subst h0
    go_enter Try.func39, Try.ntmps39
    go_wp2
    all_goals exact hQ.out _ _ ⟨ret_b (by simp_all), cmore (Below.refl _ _) _⟩
  · by_cases h2 : k = 2
    · subst h2
      go_enter Try.func39, Try.ntmps39
      go_wp2
      all_goals exact hQ.out _ _ ⟨ret_b (by simp_all), cmore (Below.refl _ _) _⟩
    · by_cases h1 : k = 1
      · subst h1
        go_enter Try.func39, Try.ntmps39
        go_wp2
        all_goals exact hQ.out _ _ ⟨ret_b (by simp_all <;> omega), cmore (Below.refl _ _) _⟩
      · have d0 : (k == 0) = false := beq_eq_false_iff_ne.2 h0
        have d1 : (k == 1) = false := beq_eq_false_iff_ne.2 h1
        have d2 : (k == 2) = false := beq_eq_false_iff_ne.2 h2
        have HN : Hid (¬ k = 0 ∧ ¬ k = 1 ∧ ¬ k = 2) := ⟨h0, h1, h2⟩
        clear h0 h1 h2
        go_enter Try.func39, Try.ntmps39
        go_wp2
        all_goals exact hQ.out _ _ ⟨ret_b (by have := HN.out; simp_all), cmore (Below.refl _ _) _⟩
theorem sound_cases {k : Int} {neg : Bool} {s : Int} {f : Nat} (h : soundN k neg s f = true) : (k = 0 ∧ neg = false ∧ s = 0 ∧ f = 0) ∨ (k = 2 ∧ neg = false ∧ s = 0 ∧ f = 0) ∨ k = 1 := by
  unfold soundN at h
  split at h
  · rename_i hk
    have := of_decide_eq_true h
    rcases hk with rfl | rfl
    · exact .inl ⟨rfl, this⟩
    · exact .inr (.inl ⟨rfl, this⟩)
  · exact .inr (.inr (of_decide_eq_true h).1)
/-! ### Encode -/
def cutN (n : Nat) (s : Int) (f : Nat) : Nat := numOf ((canon s f).take (n - 1))
def inR (n : Nat) (s : Int) : Bool := decide (8 - 4 * (n : Int) ≤ s ∧ s ≤ 4 * n - 8)
theorem encode6_no (n : Int) (k : Int) (neg : Bool) (s : Int) (f : Nat) (hn : isW n = false) (w : World) :
    Calls Try.prog 18 #[.int .i64 n, numV k neg s f] w fun e w' => e = .returned (.tuple #[.int .u64 0, .int .i64 2]) ∧ Below w.heap.size w w' := by
  have k1 := is_width n
  rw [hn] at k1
  have k2 := sound6_any k neg s f
  generalize soundN k neg s f = so at *
  unfold numV at *
  clear hn
  refine cps fun Q hQ => ?_
  go_enter Try.func18, Try.ntmps18
  go_wp2_with (first
    | (go_at_call 19; refine (k1 _).mono ?_; rintro e w1 ⟨rfl, hw⟩; rw [hw]; clear hw w1)
    | (go_at_call 39; refine (k2 _).mono ?_; rintro e w2 ⟨rfl, hb2⟩))
  exact hQ.out _ _ ⟨rfl, cthen (cmore (Below.refl _ _) _) hb2⟩
theorem encode6_bad (n : Nat) (k : Int) (neg : Bool) (s : Int) (f : Nat) (hn : Wd n) (hs : soundN k neg s f = false) (w : World) :
    Calls Try.prog 18 #[.int .i64 n, numV k neg s f] w fun e w' => e = .returned (.tuple #[.int .u64 0, .int .i64 1]) ∧ Below w.heap.size w w' := by
  have k1 := is_width n
  rw [isW_of hn] at k1
  have k2 := sound6_any k neg s f
  rw [hs] at k2
  unfold numV at *
  clear hn hs
  refine cps fun Q hQ => ?_
  go_enter Try.func18, Try.ntmps18
  go_wp2_with (first
    | (go_at_call 19; refine (k1 _).mono ?_; rintro e w1 ⟨rfl, hw⟩; rw [hw]; clear hw w1)
    | (go_at_call 39; refine (k2 _).mono ?_; rintro e w2 ⟨rfl, hb2⟩))
  exact hQ.out _ _ ⟨rfl, cthen (cmore (Below.refl _ _) _) hb2⟩
theorem encode6_zero (n : Nat) (hn : Wd n) (w : World) :
    Calls Try.prog 18 #[.int .i64 n, numV 0 false 0 0] w fun e w' => e = .returned (.tuple #[.int .u64 0, .int .i64 0]) ∧ Below w.heap.size w w' := by
  have k1 := is_width n
  rw [isW_of hn] at k1
  have k2 := sound6_any 0 false 0 0
  rw [show soundN 0 false 0 0 = true from rfl] at k2
  unfold numV at *
  clear hn
  refine cps fun Q hQ => ?_
  go_enter Try.func18, Try.ntmps18
  go_wp2_with (first
    | (go_at_call 19; refine (k1 _).mono ?_; rintro e w1 ⟨rfl, hw⟩; rw [hw]; clear hw w1)
    | (go_at_call 39; refine (k2 _).mono ?_; rintro e w2 ⟨rfl, hb2⟩; have hc := fun b o h => hb2.cell (p := ⟨b, o, none⟩) h; have z1 : w.heap.size < w2.heap.size := (by have := hb2.size; simp at this; omega)))
  exact hQ.out _ _ ⟨rfl, cthen (cmore (Below.refl _ _) _) hb2⟩
theorem encode6_nar (n : Nat) (hn : Wd n) (w : World) :
    Calls Try.prog 18 #[.int .i64 n, numV 2 false 0 0] w fun e w' => e = .returned (.tuple #[.int .u64 (2 ^ (n - 1) : Nat), .int .i64 0]) ∧ Below w.heap.size w w' := by
  have k1 := is_width n
  rw [isW_of hn] at k1
  have k2 := sound6_any 2 false 0 0
  rw [show soundN 2 false 0 0 = true from rfl] at k2
  have hw := wd_le hn
  have k3 := power_sub n (by omega) hw.2
  generalize 2 ^ (n - 1) = pw at *
  unfold numV at *
  clear hn
  refine cps fun Q hQ => ?_
  go_enter Try.func18, Try.ntmps18
  go_wp2_with (first
    | (go_at_call 19; refine (k1 _).mono ?_; rintro e w1 ⟨rfl, hw⟩; rw [hw]; clear hw w1)
    | (go_at_call 40; refine (k3 _).mono ?_; rintro e w1 ⟨rfl, hw⟩; rw [hw]; clear hw w1)
    | (go_at_call 39; refine (k2 _).mono ?_; rintro e w2 ⟨rfl, hb2⟩; have hc := fun b o h => hb2.cell (p := ⟨b, o, none⟩) h; have z1 : w.heap.size < w2.heap.size := (by have := hb2.size; simp at this; omega)))
  exact hQ.out _ _ ⟨rfl, cthen (cmore (Below.refl _ _) _) hb2⟩
end Go.Proofs.Ythbhcdokjlpjbaa
