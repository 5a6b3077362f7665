import Derived.Test.YthchcocolclpoaaGreatDoorNatU
namespace Go.Proofs.YthchcocolclpoaaGreatDoor
open Go.ChangeShapes Go.WideShapes Go.ChangeAt Go.RowKit Go.Shelf
set_option linter.unusedVariables false
set_option linter.unusedSimpArgs false
set_option maxRecDepth 100000
attribute [local go_sem] Oper.semAt_some

/-! ### shifts, down -/
theorem RowU.take' {w : World} {ao : Option Addr} {c k : Nat} {l : List Nat} (h : RowU w (.slice ao k c) l) (n : Nat) (hn : n ≤ l.length) : RowU w (.slice ao n c) (l.take n) := by
  obtain ⟨ao', c', he, hc, hl, h⟩ := h
  injection he with e1 e2 e3
  subst e1 e2 e3
  have e : (l.take n).length = n := by rw [List.length_take]; omega
  refine ⟨ao, c, by rw [e], hc, by omega, ?_⟩
  rcases h with h1 | ⟨b, off, h1, h2, h3⟩
  · exact .inl (by rw [h1]; simp)
  · refine .inr ⟨b, off, h1, h2, fun j hj => ?_⟩
    rw [e] at hj
    rw [h3 j (by omega), List.getD_eq_getElem?_getD, List.getD_eq_getElem?_getD, List.getElem?_take_of_lt hj]
/-- 'a[n:]' -/
theorem RowU.drop {w : World} {b off c k : Nat} {l : List Nat} (h : RowU w (.slice (some ⟨b, off, none⟩) k c) l) (n : Nat) (hn : n ≤ l.length) : RowU w (.slice (some ⟨b, off + n, none⟩) (l.length - n) (c - n)) (l.drop n) := by
  obtain ⟨ao', c', he, hc, hl, h⟩ := h
  injection he with e1 e2 e3
  subst e1 e2 e3
  refine ⟨_, _, by rw [List.length_drop], by omega, by rw [List.length_drop]; omega, ?_⟩
  rcases h with h1 | ⟨b', off', h1, h2, h3⟩
  · exact .inl (by rw [h1]; simp)
  · injection h1 with h1
    injection h1 with e1 e2
    subst e1 e2
    refine .inr ⟨b, off + n, rfl, h2, fun j hj => ?_⟩
    rw [List.length_drop] at hj
    rw [Nat.add_assoc, h3 (n + j) (by omega), List.getD_eq_getElem?_getD, List.getD_eq_getElem?_getD, List.getElem?_drop]
theorem slice_low {w0 : World} {ao : Option Addr} {c q : Nat} {l : List Nat} (h : RowU w0 (.slice ao l.length c) l) (hq : q ≤ l.length) (hlen : l.length ≤ 1073741824) :
    ∃ ao', (∀ w, (Instr.slice 24 (.slice ao l.length c) (some (.int .i64 (q : Nat))) none none).run Tryz.prog w = .ok (.slice ao' (l.length - q) (c - q)) w) ∧ RowU w0 (.slice ao' (l.length - q) (c - q)) (l.drop q) := by
  have hrun := fun w => run_slice_l (P := Tryz.prog) w 24 ao l.length c (by kernel_rfl) .i64 (q : Int) (by omega) (by omega)
  have hsz : ∀ w, (sizeOf (Tryz.prog.elem 24)).run Tryz.prog w = .ok 1 w := fun w => by
    simp [sizeOf, go_sem]
    rfl
  refine ⟨if c = q then ao else ao.map (fun x => x.add (q * 1)), fun w => ?_, ?_⟩
  · rw [hrun w, hsz w]
    simp [Result.andThen, sliced]
  · by_cases hcq : c = q
    · have hl0 : l.drop q = [] := List.drop_eq_nil_of_le (by obtain ⟨_, _, he, _, hl, _⟩ := h; injection he with e1 e2 e3; omega)
      rw [if_pos hcq]
      refine ⟨_, _, by rw [hl0, show l.length - q = 0 by obtain ⟨_, _, he, _, hl, _⟩ := h; injection he with e1 e2 e3; omega]; rfl, by omega, by rw [hl0]; simp, .inl hl0⟩
    · rw [if_neg hcq]
      have h' := h
      obtain ⟨ao0, c0, he, hc, hcl, hr⟩ := h'
      injection he with e1 e2 e3
      subst e1 e3
      rcases hr with hr | ⟨b, off, rfl, _, _⟩
      · subst hr
        exact ⟨_, _, by simp; exact ⟨rfl, rfl⟩, by omega, by simp, .inl (by simp)⟩
      · have := h.drop q hq
        have e : Option.map (fun x => Addr.add x (q * 1)) (some (⟨b, off, none⟩ : Addr)) = some ⟨b, off + q, none⟩ := by
          simp only [Option.map_some, Addr.add, Nat.mul_one]
          by_cases h0 : q = 0
          · subst h0; simp
          · simp [h0]
        rw [e]; exact this
theorem Copy.shape {B : Nat} {w : World} {v : Value} {l : List Nat} (h : Copy B w v l) : ∃ ao c, v = .slice ao l.length c ∧ l.length ≤ c ∧ c ≤ 9223372036854775807 ∧ (l.length = 0 ∨ ∃ g, ao = some ⟨g, 0, none⟩ ∧ B ≤ g ∧ Blk w g l) := by
  rcases h with ⟨rfl, rfl⟩ | ⟨g, c, rfl, h1, h2, h3, h4⟩
  · exact ⟨none, 0, rfl, Nat.le_refl _, by decide, .inl rfl⟩
  · exact ⟨_, c, rfl, h1, h2, .inr ⟨g, rfl, h3, h4⟩⟩
theorem down_value (l : List Nat) (hl : Limbs l) (k q r : Nat) (hq : q = min (k / 64) l.length) (hr : r = k % 64) :
    uval (l.drop q) / 2 ^ r = uval l / 2 ^ k ∧ ((uval (l.drop q) % 2 ^ r ≠ 0 ∨ uval (l.take q) ≠ 0) ↔ uval l % 2 ^ k ≠ 0) := by
  have e := uval_top l q
  rw [Nat.min_eq_left (by omega)] at e
  have hlow : uval (l.take q) < 18446744073709551616 ^ q := by
    have := uval_lt' (l.take q) (fun d h => hl d (List.mem_of_mem_take h))
    rwa [List.length_take, Nat.min_eq_left (by omega)] at this
  rcases Nat.lt_or_ge l.length (k / 64) with g | g
  · have hq' : q = l.length := by omega
    subst hq'
    have hlt := uval_lt' l hl
    have hk : uval l < 2 ^ k := by
      refine Nat.lt_of_lt_of_le hlt ?_
      rw [bpow]; exact Nat.pow_le_pow_right (by decide) (by omega)
    rw [List.drop_length, List.take_length, uval_nil, Nat.zero_div, Nat.div_eq_of_lt hk, Nat.mod_eq_of_lt hk, Nat.zero_mod]
    simp
  · have hq' : k = 64 * q + r := by omega
    rw [hq', Nat.pow_add, ← bpow]
    have hp := bpos q
    constructor
    · rw [← Nat.div_div_eq_div_mul, e, Nat.add_mul_div_left _ _ hp, Nat.div_eq_of_lt hlow, Nat.zero_add]
    · have e2 : uval l % (18446744073709551616 ^ q * 2 ^ r) = uval (l.take q) + 18446744073709551616 ^ q * (uval (l.drop q) % 2 ^ r) := by
        rw [Nat.mod_mul]
        have e3 : uval l % 18446744073709551616 ^ q = uval (l.take q) := by
          rw [e, Nat.add_mul_mod_self_left, Nat.mod_eq_of_lt hlow]
        have e4 : uval l / 18446744073709551616 ^ q = uval (l.drop q) := by
          rw [e, Nat.add_mul_div_left _ _ hp, Nat.div_eq_of_lt hlow, Nat.zero_add]
        rw [e3, e4]
      rw [e2]
      generalize uval (l.drop q) % 2 ^ r = a
      generalize uval (l.take q) = b
      generalize 18446744073709551616 ^ q = p at hp
      constructor
      · rintro (h | h)
        · have := Nat.mul_pos hp (Nat.pos_of_ne_zero h); omega
        · omega
      · intro h
        by_cases g : b = 0
        · left; intro h2; rw [h2, g] at h; simp at h
        · exact .inr g
end Go.Proofs.YthchcocolclpoaaGreatDoor
