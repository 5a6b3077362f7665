import Derived.Test.YtckmmdmimlhmoaaDoorNatM
import Derived.Test.YtckmmdmimlhmoaaDoorPartA
namespace Go.Proofs.YtckmmdmimlhmoaaDoor
open Go.ChangeShapes Go.WideShapes Go.ChangeAt Go.RowKit
set_option linter.unusedVariables false
set_option maxRecDepth 100000

abbrev Limbs (l : List Nat) : Prop := ∀ x ∈ l, x < 18446744073709551616

/-! ### 'a[:n:n]': the noughts at an end are cut off -/
theorem RowU.take {w : World} {ao : Option Addr} {c k : Nat} {l : List Nat} (h : RowU w (.slice ao k c) l) (n : Nat) (hn : n ≤ l.length) : RowU w (.slice ao n n) (l.take n) := by
  obtain ⟨ao', c', he, hc, hl, h⟩ := h
  injection he with e1 e2 e3
  subst e1 e2 e3
  have e : (l.take n).length = n := by rw [List.length_take]; omega
  refine ⟨ao, n, by rw [e], by omega, by omega, ?_⟩
  rcases h with h1 | ⟨b, off, h1, h2, h3⟩
  · exact .inl (by rw [h1]; simp)
  · refine .inr ⟨b, off, h1, h2, fun j hj => ?_⟩
    rw [e] at hj
    rw [h3 j (by omega), List.getD_eq_getElem?_getD, List.getD_eq_getElem?_getD, List.getElem?_take_of_lt hj]
theorem lim_tail (l : List Nat) (h : Limbs l) : (∀ j, (lim (uval l)).length ≤ j → l.getD j 0 = 0) ∧ (∀ m, (lim (uval l)).length = m → 0 < m → l.getD (m - 1) 0 ≠ 0) := by
  have e := lim_cut l h
  constructor
  · intro j hj
    rw [e, List.getD_eq_getElem?_getD, List.getElem?_append_right hj, List.getElem?_replicate]
    split <;> rfl
  · intro m hm hp
    have h1 := lim_last (uval l)
    rw [List.getLast?_eq_getElem?, hm] at h1
    rw [e, List.getD_eq_getElem?_getD, List.getElem?_append_left (by omega)]
    rw [List.getElem?_eq_getElem (by omega)] at h1 ⊢
    intro g
    apply h1
    rw [← g]; rfl

theorem RowU.some' {w : World} {v : Value} {l : List Nat} {n : Nat} (h : RowU w v l) (hn : l.length = n) (h0 : 0 < n) : ∃ b off c, v = .slice (some ⟨b, off, none⟩) n c ∧ c ≤ 9223372036854775807 ∧ n ≤ c ∧ b < w.heap.size ∧
    ∀ j, j < n → w.cell? ⟨b, off + j, none⟩ = some (.int .u64 (l.getD j 0 : Nat)) := by
  obtain ⟨ao, c, rfl, hc, hl, h⟩ := h
  subst hn
  rcases h with h | ⟨b, off, rfl, hlt, h⟩
  · rw [h] at h0; cases h0
  · exact ⟨b, off, c, rfl, hc, hl, hlt, h⟩
set_option maxHeartbeats 1000000 in
theorem natcut_raw (v : Value) (l : List Nat) (hl : Limbs l) (w : World) (hr : RowU w v l) :
    Calls Tryd.prog 18 #[v] w fun e w' => (∃ ao c, v = .slice ao l.length c ∧ e = .returned (.slice ao (lim (uval l)).length (lim (uval l)).length)) ∧ w' = w := by
  obtain ⟨h0, h1⟩ := lim_tail l hl
  have hle := lim_le_length l hl
  obtain ⟨ao, c, rfl, hc, hcl, h⟩ := hr.out
  clear hr
  refine cps fun Q hQ => ?_
  generalize hm : (lim (uval l)).length = m at *
  have H0 : Hid (∀ j, m ≤ j → l.getD j 0 = 0) := h0
  have H1 : Hid (∀ m', m = m' → 0 < m' → l.getD (m' - 1) 0 ≠ 0) := h1
  clear h0 h1 hl
  go_enter Tryd.func18, Tryd.ntmps18
  go_wp2
  go_loop [3] (fun a => ∃ n : Nat, m ≤ n ∧ n ≤ l.length ∧ a = .int .i64 n) (fun a => (intOf a).toNat)
  case atStart => exact ⟨l.length, by omega, by omega, rfl⟩
  case round =>
    obtain ⟨n, hn1, hn2, rfl⟩ := hrel
    by_cases h0 : 0 < n
    · rcases h with h | ⟨b, off, rfl, h⟩
      · omega
      have hcell := h (n - 1) (by omega)
      by_cases hlt : m < n
      · rw [H0.out (n - 1) (by omega)] at hcell
        clear h
        go_wp2
        go_round
        case rel => exact ⟨n - 1, by omega, by omega, by go_num⟩
        case measure => simp [intOf]; omega
      · have hnm : m = n := by omega
        have hne := H1.out n hnm h0
        generalize l.getD (n - 1) 0 = d at *
        clear h
        have hne' : 0 < d := by omega
        go_wp2
        exact hQ.out _ _ ⟨⟨_, _, rfl, by rw [hnm]⟩, rfl⟩
    · have hn0 : n = 0 := by omega
      subst hn0
      have e0 : m = 0 := by omega
      go_wp2
      exact hQ.out _ _ ⟨⟨_, _, rfl, by rw [e0]⟩, rfl⟩
theorem natcut_own (v : Value) (l : List Nat) (hl : Limbs l) (w : World) (hr : RowU w v l) :
    Calls Tryd.prog 18 #[v] w fun e w' => ∃ v', e = .returned v' ∧ RowU w v' (lim (uval l)) ∧ w' = w ∧ v'.ownBlock = v.ownBlock := by
  refine (natcut_raw v l hl w hr).mono ?_
  rintro e w' ⟨⟨ao, c, rfl, rfl⟩, rfl⟩
  refine ⟨_, rfl, ?_, rfl, by cases ao <;> rfl⟩
  have := hr.take _ (lim_le_length l hl)
  rwa [lim_take l hl] at this
theorem natcut_any (v : Value) (l : List Nat) (hl : Limbs l) (w : World) (hr : RowU w v l) :
    Calls Tryd.prog 18 #[v] w fun e w' => ∃ v', e = .returned v' ∧ RowU w v' (lim (uval l)) ∧ w' = w :=
  (natcut_own v l hl w hr).mono fun _ _ ⟨v', h1, h2, h3, _⟩ => ⟨v', h1, h2, h3⟩

theorem rowU_one (w : World) (e : TypeId) (d : Nat) : RowU (w.alloc (.cells #[.int .u64 (d : Int)] e)) (.slice (some ⟨w.heap.size, 0, none⟩) 1 1) [d] := by
  refine ⟨_, 1, rfl, by decide, Nat.le_refl _, .inr ⟨_, 0, rfl, by simp, fun j hj => ?_⟩⟩
  have : j = 0 := by simpa using hj
  subst this
  exact World.cell?_alloc_at _ _ _ _ rfl

set_option maxHeartbeats 1000000 in
theorem natof_any (x : Nat) (hx : x < 18446744073709551616) (w : World) :
    Calls Tryd.prog 22 #[.int .u64 x] w fun e w' => ∃ v, e = .returned v ∧ RowU w' v (lim x) ∧ Below w.heap.size w w' := by
  have hc := natcut_any (.slice (some ⟨w.heap.size, 0, none⟩) 1 1) [x] (fun y hy => by simp at hy; omega) _ (rowU_one w 42 x)
  have e : uval [x] = x := by simp [uval]
  rw [e] at hc
  have HC : Hid (Calls _ _ _ _ _) := hc
  clear hc e
  refine cps fun Q hQ => ?_
  go_enter Tryd.func22, Tryd.ntmps22
  go_wp2_with (go_at_call 18; refine HC.out.mono ?_; rintro e w' ⟨v, rfl, hr, hw⟩; rw [hw]; clear hw w')
  exact hQ.out _ _ ⟨_, rfl, hr, bmore (Below.refl _ _) _⟩

/-- how many bits a number of limbs has -/
theorem blen_lim (l : List Nat) (hl : Limbs l) (n : Nat) (hn : l.length = n + 1) (h0 : l.getD n 0 ≠ 0) : blen (uval l) = n * 64 + blen (l.getD n 0) := by
  have e := uval_top l n
  rw [Nat.min_eq_left (by omega), uval_drop' l n (by omega), List.drop_eq_nil_of_le (by omega), uval_nil, Nat.mul_zero, Nat.add_zero] at e
  have hlow : uval (l.take n) < 18446744073709551616 ^ n := by
    have := uval_lt' (l.take n) (fun d h => hl d (List.mem_of_mem_take h))
    rwa [List.length_take, Nat.min_eq_left (by omega)] at this
  rw [bpow] at e hlow
  have hd : uval l / 2 ^ (64 * n) = l.getD n 0 := by
    rw [e, Nat.add_mul_div_left _ _ (Nat.pow_pos (by decide)), Nat.div_eq_of_lt hlow]; omega
  have := blen_shift (a := uval l) (k := 64 * n) (by rw [hd]; exact h0)
  rw [this, hd]; omega

theorem natnought_any (v : Value) (l : List Nat) (hl : Limbs l) (w : World) (h : RowU w v l) :
    Calls Tryd.prog 21 #[v] w fun e w' => e = .returned (.bool (decide (uval l = 0))) ∧ w' = w := by
  have hcut := natcut_any v l hl w h
  have hz := @lim_nil (uval l)
  clear h
  refine cps fun Q hQ => ?_
  have HC : Hid (Calls _ _ _ _ _) := hcut
  have hd : ((((lim (uval l)).length : Nat) : Int) == 0) = decide (uval l = 0) := by
    rw [Bool.eq_iff_iff]; simp only [beq_iff_eq, decide_eq_true_eq]; rw [← hz]; omega
  generalize decide (uval l = 0) = r at *
  obtain ⟨n, HN⟩ : ∃ n, Hid ((lim (uval l)).length = n) := ⟨_, rfl⟩
  rw [HN.out] at hd
  clear hz hcut
  go_enter Tryd.func21, Tryd.ntmps21
  go_wp2_with (go_at_call 18; refine HC.out.mono ?_; rintro e w' ⟨v', rfl, ⟨ao, c, rfl, hc1, hc2, hr⟩, hw⟩; rw [hw, HN.out]; clear hw w' hr hc1 hc2)
  exact hQ.out _ _ ⟨rfl, rfl⟩
end Go.Proofs.YtckmmdmimlhmoaaDoor
