import Derived.Test.YtckmmdmimlhmoaaDoorOwnD
import Derived.Test.YtckmmdmimlhmoaaDoorNatL
namespace Go.Proofs.YtckmmdmimlhmoaaDoor
open Go.ChangeShapes Go.WideShapes Go.ChangeAt Go.RowKit
set_option linter.unusedVariables false
set_option linter.unusedSimpArgs false
set_option maxRecDepth 100000

/-! ### the ten answers, once and again -/
def tenN (a b u : Nat) : Nat → Nat
  | 0 => a + b
  | 1 => a
  | 2 => a * b
  | 3 => b
  | 4 => if a < b then 0 else a - b
  | 5 => if b = 0 then 0 else a / b
  | 6 => if b = 0 then 0 else a % b
  | 7 => a * 2 ^ u
  | 8 => a / 2 ^ u
  | _ => a
def tenR (a b u j : Nat) : List Nat := lim (tenN a b u (j % 10))
theorem tenR_at (a b u i k : Nat) (hk : k < 10) : tenR a b u (10 * i + k) = lim (tenN a b u k) := by
  unfold tenR; rw [show (10 * i + k) % 10 = k by omega]
theorem tenR_mod (a b u j : Nat) : tenR a b u (j % 10) = tenR a b u j := by unfold tenR; rw [Nat.mod_mod]
/-- the answers so far -/
def RsL (base : Nat) (w : World) (R : Nat → List Nat) (xs : List Value) : Prop :=
  ∃ vs : Nat → Value, Rs base w xs.length vs R ∧ (List.range xs.length).map vs = xs
theorem RsL.nil (base : Nat) (w : World) (R : Nat → List Nat) : RsL base w R [] := ⟨fun _ => .slice none 0 0, ⟨fun j hj => (by cases hj), fun j k hj => (by cases hj)⟩, rfl⟩
theorem Rs.chg {S : Nat → Prop} {base N : Nat} {w w' : World} {vs : Nat → Value} {R : Nat → List Nat} (h : Rs base w N vs R) (hc : Chg S w w') (hs : ∀ g L, Blk w g L → base ≤ g → ¬ S g) : Rs base w' N vs R :=
  ⟨fun j hj => (h.each j hj).chg hc fun h0 g hg => by
    obtain ⟨g', h1, h2, _, h3⟩ := (h.each j hj).own h0
    rw [hg] at h1; cases h1; exact hs g _ h3 h2, h.apart⟩
theorem RsL.chg {S : Nat → Prop} {base : Nat} {w w' : World} {R : Nat → List Nat} {xs : List Value} (h : RsL base w R xs) (hc : Chg S w w') (hs : ∀ g L, Blk w g L → base ≤ g → ¬ S g) : RsL base w' R xs := by
  obtain ⟨vs, h1, h2⟩ := h
  exact ⟨vs, h1.chg hc hs, h2⟩
theorem RsL.below {base : Nat} {w w' : World} {R : Nat → List Nat} {xs : List Value} (h : RsL base w R xs) (hb : Below w.heap.size w w') : RsL base w' R xs :=
  h.chg (Chg.below hb) fun g L hL _ => by have := hL.lt; omega
theorem RsL.snoc {base B : Nat} {w : World} {R : Nat → List Nat} {xs : List Value} {v : Value} {x : Nat} (h : RsL base w R xs) (hv : OwnU B w v x) (hx : R xs.length = lim x) (hB : base ≤ B)
    (hlt : ∀ j, j < xs.length → ∀ u, xs[j]? = some u → R j ≠ [] → ∀ g, u.ownBlock = some g → g < B) : RsL base w R (xs ++ [v]) := by
  obtain ⟨vs, h1, h2⟩ := h
  have hget : ∀ j, j < xs.length → xs[j]? = some (vs j) := fun j hj => by
    conv => lhs; rw [← h2]
    rw [List.getElem?_map, List.getElem?_range (by simpa using hj)]; rfl
  refine ⟨fun j => if j = xs.length then v else vs j, ⟨fun j hj => ?_, fun j k hj hk hne h3 h4 => ?_⟩, ?_⟩
  · by_cases e : j = xs.length
    · subst e
      rw [if_pos rfl, hx]
      exact hv.res.mono hB
    · rw [if_neg e]
      exact h1.each j (by rw [List.length_append] at hj; simp at hj; omega)
  · have hj' : j ≤ xs.length := by rw [List.length_append] at hj; simp at hj; omega
    have hk' : k ≤ xs.length := by rw [List.length_append] at hk; simp at hk; omega
    have key : ∀ j, j < xs.length → R j ≠ [] → R xs.length ≠ [] → (vs j).ownBlock ≠ v.ownBlock := fun j hj hr1 hr2 e => by
      rw [hx] at hr2
      obtain ⟨g, g1, g2, _, _⟩ := hv.res.own hr2
      have := hlt j hj (vs j) (hget j hj) hr1 g (e.trans g1)
      omega
    by_cases e : j = xs.length
    · subst e
      rw [if_pos rfl, if_neg (fun e => hne e.symm)]
      exact fun e2 => key k (by omega) h4 h3 e2.symm
    · by_cases e2 : k = xs.length
      · subst e2
        rw [if_neg e, if_pos rfl]
        exact key j (by omega) h3 h4
      · rw [if_neg e, if_neg e2]
        exact h1.apart j k (by omega) (by omega) hne h3 h4
  · rw [List.length_append, List.length_singleton, List.range_succ, List.map_append, List.map_cons, List.map_nil, if_pos rfl]
    congr 1
    conv => rhs; rw [← h2]
    refine List.map_congr_left fun j hj => ?_
    rw [if_neg (by have := List.mem_range.1 hj; omega)]
theorem RsL.lt {base : Nat} {w : World} {R : Nat → List Nat} {xs : List Value} (h : RsL base w R xs) (j : Nat) (hj : j < xs.length) (u : Value) (hu : xs[j]? = some u) (h0 : R j ≠ []) (g : Nat) (hg : u.ownBlock = some g) : g < w.heap.size := by
  obtain ⟨vs, h1, h2⟩ := h
  have hget : xs[j]? = some (vs j) := by
    conv => lhs; rw [← h2]
    rw [List.getElem?_map, List.getElem?_range (by simpa using hj)]; rfl
  rw [hget] at hu; cases hu
  obtain ⟨g', h3, _, h4, _⟩ := (h1.each j hj).own h0
  rw [hg] at h3; cases h3; exact h4
theorem RsL.next {base : Nat} {w w' : World} {R : Nat → List Nat} {xs : List Value} {v : Value} {x : Nat} (h : RsL base w R xs) (hb : Below w.heap.size w w') (hv : OwnU w.heap.size w' v x) (hx : R xs.length = lim x) (hB : base ≤ w.heap.size) : RsL base w' R (xs ++ [v]) :=
  (h.below hb).snoc hv hx hB fun j hj u hu h0 g hg => h.lt j hj u hu h0 g hg
theorem RsL.next2 {base : Nat} {w w' : World} {R : Nat → List Nat} {xs : List Value} {v1 v2 : Value} {x y : Nat} (h : RsL base w R xs) (hb : Below w.heap.size w w') (hv : TwoU w.heap.size w' v1 v2 x y) (hx : R xs.length = lim x) (hy : R (xs.length + 1) = lim y) (hB : base ≤ w.heap.size) : RsL base w' R (xs ++ [v1] ++ [v2]) := by
  obtain ⟨B', hB', h1, h2, h3⟩ := hv
  refine (h.next hb h1 hx hB).snoc h3 (by rw [List.length_append]; exact hy) (by omega) fun j hj u hu h0 g hg => ?_
  by_cases e : j < xs.length
  · rw [List.getElem?_append_left e] at hu
    have := h.lt j e u hu h0 g hg
    omega
  · have hj2 : j = xs.length := by rw [List.length_append] at hj; simp at hj; omega
    subst hj2
    rw [List.getElem?_append_right (Nat.le_refl _), Nat.sub_self] at hu
    simp at hu
    subst hu
    exact h2 g hg
theorem rowUU_one (w : World) (e : TypeId) {va : Value} {l : List Nat} (ha : RowU w va l) : RowUU (w.alloc (.cells #[va] e)) (.slice (some ⟨w.heap.size, 0, none⟩) 1 1) [l] :=
  rowUU_own (w := w) (vs := #[va]) (L := [l]) rfl (by simp) fun j hj => by
    have : j = 0 := by simpa using hj
    subst this
    exact ha
theorem tenR_len (l m : List Nat) (hl : Limbs l) (hm : Limbs m) (hb : l.length ≤ 1048576) (hc : m.length ≤ 1048576) (u j : Nat) (hu : u ≤ 200) : (tenR (uval l) (uval m) u j).length ≤ 2097160 := by
  obtain ⟨M, hM⟩ : ∃ M : Nat, M = 2097160 := ⟨_, rfl⟩
  rw [← hM]
  have h1 := uval_lt' l hl
  have h2 := uval_lt' m hm
  have p1 : (18446744073709551616 : Nat) ^ l.length ≤ 18446744073709551616 ^ (l.length + m.length) := Nat.pow_le_pow_right (by decide) (by omega)
  have p2 : (18446744073709551616 : Nat) ^ m.length ≤ 18446744073709551616 ^ (l.length + m.length) := Nat.pow_le_pow_right (by decide) (by omega)
  have p3 : (18446744073709551616 : Nat) ^ (l.length + m.length) * 18446744073709551616 ^ 4 ≤ 18446744073709551616 ^ M := by
    rw [← Nat.pow_add]; exact Nat.pow_le_pow_right (by decide) (show l.length + m.length + 4 ≤ M by omega)
  have p4 : (2 : Nat) ^ u ≤ 18446744073709551616 ^ 4 := by
    rw [show (18446744073709551616 : Nat) = 2 ^ 64 from rfl, ← Nat.pow_mul]; exact Nat.pow_le_pow_right (by decide) (by omega)
  have p5 : uval l * uval m < 18446744073709551616 ^ (l.length + m.length) := by rw [Nat.pow_add]; exact Nat.mul_lt_mul'' h1 h2
  have p6 : uval l * 2 ^ u < 18446744073709551616 ^ (l.length + m.length) * 18446744073709551616 ^ 4 :=
    Nat.lt_of_lt_of_le (Nat.mul_lt_mul_of_pos_right (Nat.lt_of_lt_of_le h1 p1) (Nat.pow_pos (by decide))) (Nat.mul_le_mul_left _ p4)
  have p7 := Nat.div_le_self (uval l) (uval m)
  have p8 := Nat.mod_le (uval l) (uval m)
  have p9 := Nat.div_le_self (uval l) (2 ^ u)
  refine lim_length_le (Nat.lt_of_lt_of_le ?_ p3)
  clear hM
  have p10 : (18446744073709551616 : Nat) ^ 4 = 115792089237316195423570985008687907853269984665640564039457584007913129639936 := by decide
  rw [p10] at p6 ⊢
  generalize (18446744073709551616 : Nat) ^ (l.length + m.length) = X at *
  generalize (18446744073709551616 : Nat) ^ l.length = Y at *
  generalize (18446744073709551616 : Nat) ^ m.length = Z at *
  clear p3 p4 p10
  have hk : j % 10 < 10 := Nat.mod_lt _ (by decide)
  generalize j % 10 = k at *
  have e : ∀ t, k = t → tenN (uval l) (uval m) u k = tenN (uval l) (uval m) u t := fun t h => by rw [h]
  rcases (show k = 0 ∨ k = 1 ∨ k = 2 ∨ k = 3 ∨ k = 4 ∨ k = 5 ∨ k = 6 ∨ k = 7 ∨ k = 8 ∨ k = 9 by omega) with h | h | h | h | h | h | h | h | h | h <;> rw [e _ h] <;> simp only [tenN] <;> clear e h hk
  · omega
  · omega
  · generalize uval l * uval m = ab at *; omega
  · omega
  · split <;> omega
  · generalize uval l / uval m = d at *; split <;> omega
  · generalize uval l % uval m = d at *; split <;> omega
  · generalize uval l * 2 ^ u = d at *; omega
  · generalize uval l / 2 ^ u = d at *; omega
  · omega
/-- each call of nat, in one form -/
theorem add2_own (va vb : Value) (l m : List Nat) (hl : Limbs l) (hm : Limbs m) (hb : l.length ≤ 1048576) (hc : m.length ≤ 1048576) (g : Nat) (w : World) (h : RowUU w (.slice (some ⟨g, 0, none⟩) 2 2) [l, m]) :
    Calls Tryd.prog 6 #[.slice (some ⟨g, 0, none⟩) 2 2] w fun e w' => ∃ v', e = .returned v' ∧ OwnU w.heap.size w' v' (uval l + uval m) ∧ Below w.heap.size w w' := by
  have := natadd_own _ [l, m] (by intro x hx; simp at hx; rcases hx with rfl | rfl; exact hl; exact hm) (by simp; omega) w h
  simpa using this
theorem add1_own (l : List Nat) (hl : Limbs l) (hb : l.length ≤ 1048576) (g : Nat) (w : World) (h : RowUU w (.slice (some ⟨g, 0, none⟩) 1 1) [l]) :
    Calls Tryd.prog 6 #[.slice (some ⟨g, 0, none⟩) 1 1] w fun e w' => ∃ v', e = .returned v' ∧ OwnU w.heap.size w' v' (uval l) ∧ Below w.heap.size w w' := by
  have := natadd_own _ [l] (by intro x hx; simp at hx; subst hx; exact hl) (by simp; omega) w h
  simpa using this
theorem mul2_own (l m : List Nat) (hl : Limbs l) (hm : Limbs m) (hb : l.length ≤ 1048576) (hc : m.length ≤ 1048576) (g : Nat) (w : World) (h : RowUU w (.slice (some ⟨g, 0, none⟩) 2 2) [l, m]) :
    Calls Tryd.prog 8 #[.slice (some ⟨g, 0, none⟩) 2 2] w fun e w' => ∃ v', e = .returned v' ∧ OwnU w.heap.size w' v' (uval l * uval m) ∧ Below w.heap.size w w' := by
  have := natmul_own _ [l, m] (by intro x hx; simp at hx; rcases hx with rfl | rfl; exact hl; exact hm) (by simp; omega) w h
  simpa using this
theorem mul1_own (l : List Nat) (hl : Limbs l) (hb : l.length ≤ 1048576) (g : Nat) (w : World) (h : RowUU w (.slice (some ⟨g, 0, none⟩) 1 1) [l]) :
    Calls Tryd.prog 8 #[.slice (some ⟨g, 0, none⟩) 1 1] w fun e w' => ∃ v', e = .returned v' ∧ OwnU w.heap.size w' v' (uval l) ∧ Below w.heap.size w w' := by
  have := natmul_own _ [l] (by intro x hx; simp at hx; subst hx; exact hl) (by simp; omega) w h
  simpa using this
theorem sub_own (va vb : Value) (l m : List Nat) (hl : Limbs l) (hm : Limbs m) (hb : l.length ≤ 1048576) (hc : m.length ≤ 1048576) (w : World) (h : RowU w va l) (g : RowU w vb m) :
    Calls Tryd.prog 9 #[va, vb] w fun e w' => ∃ v' ev, e = .returned (.tuple #[v', ev]) ∧ OwnU w.heap.size w' v' (tenN (uval l) (uval m) 0 4) ∧ Below w.heap.size w w' := by
  by_cases hlt : uval l < uval m
  · refine (natsub_lt va vb l m hl hm (by omega) (by omega) hlt w h g).mono fun e w' ⟨h1, h2⟩ => ⟨_, _, h1, ?_, h2⟩
    simp only [tenN, if_pos hlt]
    exact OwnU.nil _ _
  · refine (natsub_own va vb l m hl hm (by omega) (by omega) (Nat.le_of_not_lt hlt) w h g).mono fun e w' ⟨v, h1, h3, h2⟩ => ⟨_, _, h1, ?_, h2⟩
    simp only [tenN, if_neg hlt]
    exact h3
theorem div_own (va vb : Value) (l m : List Nat) (hl : Limbs l) (hm : Limbs m) (hb : l.length ≤ 1048576) (hc : m.length ≤ 1048576) (w : World) (h : RowU w va l) (g : RowU w vb m) :
    Calls Tryd.prog 10 #[va, vb] w fun e w' => ∃ v1 v2 ev, e = .returned (.tuple #[v1, v2, ev]) ∧ TwoU w.heap.size w' v1 v2 (tenN (uval l) (uval m) 0 5) (tenN (uval l) (uval m) 0 6) ∧ Below w.heap.size w w' := by
  by_cases h0 : uval m = 0
  · refine (natdiv_zero va vb l m hl hm (by omega) (by omega) h0 w h g).mono fun e w' ⟨h1, h2⟩ => ⟨_, _, _, h1, ?_, h2⟩
    simp only [tenN, if_pos h0]
    exact ⟨_, Nat.le_refl _, OwnU.nil _ _, (fun g hg => by simp [Value.ownBlock] at hg), OwnU.nil _ _⟩
  · by_cases hlt : uval l < uval m
    · refine (natdiv_lt va vb l m hl hm (by omega) (by omega) hlt w h g).mono fun e w' ⟨v2, h1, h3, h2⟩ => ⟨_, _, _, h1, ?_, h2⟩
      simp only [tenN, if_neg h0]
      rw [Nat.div_eq_of_lt hlt, Nat.mod_eq_of_lt hlt]
      exact ⟨_, Nat.le_refl _, OwnU.nil _ _, (fun g hg => by simp [Value.ownBlock] at hg), h3⟩
    · refine (natdiv_ge va vb l m hl hm (by omega) (by omega) (by omega) (Nat.le_of_not_lt hlt) w h g).mono fun e w' ⟨v1, v2, h1, h3, h2⟩ => ⟨_, _, _, h1, ?_, h2⟩
      simp only [tenN, if_neg h0]
      exact h3
theorem shl_own (va : Value) (l : List Nat) (hl : Limbs l) (hb : l.length ≤ 1048576) (k : Nat) (hk : k ≤ 200) (w : World) (h : RowU w va l) :
    Calls Tryd.prog 11 #[va, .int .i64 k] w fun e w' => ∃ v ev, e = .returned (.tuple #[v, ev]) ∧ OwnU w.heap.size w' v (uval l * 2 ^ k) ∧ Below w.heap.size w w' :=
  (natshl_own va l hl (by omega) k (by omega) w h).mono fun e w' ⟨v, h1, h3, h2⟩ => ⟨_, _, h1, h3, h2⟩
theorem shr_own (va : Value) (l : List Nat) (hl : Limbs l) (hb : l.length ≤ 1048576) (k : Nat) (hk : k ≤ 200) (w : World) (h : RowU w va l) :
    Calls Tryd.prog 12 #[va, .int .i64 k] w fun e w' => ∃ v e1 e2, e = .returned (.tuple #[v, e1, e2]) ∧ OwnU w.heap.size w' v (uval l / 2 ^ k) ∧ Below w.heap.size w w' :=
  (natshr_own va l hl (by omega) k (by omega) w h).mono fun e w' ⟨v, h1, h3, h2⟩ => ⟨_, _, _, h1, h3, h2⟩
end Go.Proofs.YtckmmdmimlhmoaaDoor
