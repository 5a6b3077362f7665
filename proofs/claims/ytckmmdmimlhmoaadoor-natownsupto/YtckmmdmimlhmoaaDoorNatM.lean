import Derived.Test.YtckmmdmimlhmoaaDoorNatA
namespace Go.Proofs.YtckmmdmimlhmoaaDoor
open Go.ChangeShapes Go.WideShapes Go.ChangeAt Go.RowKit
set_option linter.unusedVariables false

theorem bpow (n : Nat) : (18446744073709551616 : Nat) ^ n = 2 ^ (64 * n) := by rw [show (18446744073709551616 : Nat) = 2 ^ 64 by decide, ← Nat.pow_mul]
theorem bpos (n : Nat) : 0 < (18446744073709551616 : Nat) ^ n := Nat.pow_pos (by decide)
theorem uval_lt' (l : List Nat) (h : ∀ d ∈ l, d < 18446744073709551616) : uval l < 18446744073709551616 ^ l.length := by rw [bpow]; exact uval_lt l h
theorem uval_app (l m : List Nat) : uval (l ++ m) = uval l + 18446744073709551616 ^ l.length * uval m := by rw [bpow]; exact uval_append l m
/-- the lowest n limbs of x, noughts too -/
def fix : Nat → Nat → List Nat
  | 0, _ => []
  | n + 1, x => x % 18446744073709551616 :: fix n (x / 18446744073709551616)
theorem fix_length (n x : Nat) : (fix n x).length = n := by
  induction n generalizing x with
  | zero => rfl
  | succ n ih => simp [fix, ih]
theorem fix_mem (n x d : Nat) (h : d ∈ fix n x) : d < 18446744073709551616 := by
  induction n generalizing x with
  | zero => simp [fix] at h
  | succ n ih =>
    rw [fix] at h
    rcases List.mem_cons.1 h with g | g
    · omega
    · exact ih _ g
theorem fix_limbs (n x : Nat) : ∀ d ∈ fix n x, d < 18446744073709551616 := fun d h => fix_mem n x d h
theorem uval_fix (n x : Nat) : uval (fix n x) = x % 18446744073709551616 ^ n := by
  induction n generalizing x with
  | zero => simp [fix, uval, Nat.mod_one]
  | succ n ih => rw [fix, uval_cons, ih, Nat.pow_succ, Nat.mul_comm (18446744073709551616 ^ n), Nat.mod_mul]
theorem fix_uval (l : List Nat) (h : ∀ d ∈ l, d < 18446744073709551616) : fix l.length (uval l) = l := by
  induction l with
  | nil => rfl
  | cons d l ih =>
    have h1 := h d (List.mem_cons_self ..)
    rw [List.length_cons, fix, uval_cons, show (d + 18446744073709551616 * uval l) % 18446744073709551616 = d by omega, show (d + 18446744073709551616 * uval l) / 18446744073709551616 = uval l by omega, ih fun x hx => h x (List.mem_cons_of_mem _ hx)]
theorem uval_inj {l m : List Nat} (hl : ∀ d ∈ l, d < 18446744073709551616) (hm : ∀ d ∈ m, d < 18446744073709551616) (hn : l.length = m.length) (h : uval l = uval m) : l = m := by
  rw [← fix_uval l hl, ← fix_uval m hm, hn, h]
theorem lim_length_le {x n : Nat} (h : x < 18446744073709551616 ^ n) : (lim x).length ≤ n := by
  induction n generalizing x with
  | zero => have : x = 0 := by simpa using h
            subst this; rw [lim_zero]; simp
  | succ n ih =>
    by_cases h0 : x = 0
    · subst h0; rw [lim_zero]; simp
    · rw [lim_pos h0, List.length_cons]
      have := ih (x := x / 18446744073709551616) (by rw [Nat.pow_succ] at h; exact Nat.div_lt_of_lt_mul (by rw [Nat.mul_comm]; exact h))
      omega
theorem lim_limbs (n : Nat) : ∀ d ∈ lim n, d < 18446744073709551616 := fun d h => lim_mem n d h
theorem fix_lim {x n : Nat} (h : x < 18446744073709551616 ^ n) : fix n x = lim x ++ List.replicate (n - (lim x).length) 0 := by
  have hl := lim_length_le h
  refine uval_inj (fix_limbs n x) ?_ (by rw [fix_length]; simp; omega) (by rw [uval_fix, uval_ends, uval_lim, Nat.mod_eq_of_lt h])
  intro d hd
  rcases List.mem_append.1 hd with g | g
  · exact lim_mem x d g
  · simp at g; omega
/-- a row is its number's, and noughts -/
theorem lim_cut (l : List Nat) (h : ∀ d ∈ l, d < 18446744073709551616) : l = lim (uval l) ++ List.replicate (l.length - (lim (uval l)).length) 0 := by
  have := fix_lim (uval_lt' l h)
  rwa [fix_uval l h] at this
theorem lim_le_length (l : List Nat) (h : ∀ d ∈ l, d < 18446744073709551616) : (lim (uval l)).length ≤ l.length := lim_length_le (uval_lt' l h)
theorem lim_take (l : List Nat) (h : ∀ d ∈ l, d < 18446744073709551616) : l.take (lim (uval l)).length = lim (uval l) := by
  have e := congrArg (List.take (lim (uval l)).length) (lim_cut l h)
  rwa [List.take_left' rfl] at e
theorem lim_lt_pow (x : Nat) : x < 18446744073709551616 ^ (lim x).length := by
  have := uval_lt' (lim x) (lim_limbs x)
  rwa [uval_lim] at this
theorem lim_pow_le {x : Nat} (h : x ≠ 0) : 18446744073709551616 ^ ((lim x).length - 1) ≤ x := by
  induction x using Nat.strongRecOn with
  | _ x ih =>
    rw [lim_pos h, List.length_cons, Nat.add_sub_cancel]
    by_cases h1 : x / 18446744073709551616 = 0
    · rw [h1, lim_zero]; simp; omega
    · have := ih _ (by omega) h1
      have hp : 0 < (lim (x / 18446744073709551616)).length := by rw [lim_pos h1]; simp
      obtain ⟨k, hk⟩ : ∃ k, (lim (x / 18446744073709551616)).length = k + 1 := ⟨_, (Nat.succ_pred_eq_of_pos hp).symm⟩
      rw [hk] at this ⊢
      rw [Nat.add_sub_cancel] at this
      rw [Nat.pow_succ]
      generalize 18446744073709551616 ^ k = p at *
      omega
theorem lim_length_lt {x y : Nat} (h : (lim x).length < (lim y).length) : x < y := by
  have h1 := lim_lt_pow x
  have h0 : y ≠ 0 := by intro g; rw [g, lim_zero] at h; simp at h
  have h2 := lim_pow_le h0
  have h3 : (18446744073709551616 : Nat) ^ (lim x).length ≤ 18446744073709551616 ^ ((lim y).length - 1) := Nat.pow_le_pow_right (by decide) (by omega)
  omega
theorem lim_length_mono {x y : Nat} (h : x ≤ y) : (lim x).length ≤ (lim y).length := Nat.le_of_not_lt fun g => by have := lim_length_lt g; omega
theorem lim_nil {x : Nat} : (lim x).length = 0 ↔ x = 0 := by
  constructor
  · intro h; by_cases g : x = 0
    · exact g
    · rw [lim_pos g] at h; simp at h
  · intro h; rw [h, lim_zero]; rfl
theorem lim_mul_length (x y : Nat) : (lim (x * y)).length ≤ (lim x).length + (lim y).length := by
  refine lim_length_le ?_
  rw [Nat.pow_add]
  exact Nat.mul_lt_mul'' (lim_lt_pow x) (lim_lt_pow y)
/-- one limb of a row anew -/
theorem uval_set (l : List Nat) (j d : Nat) (h : j < l.length) : uval (l.set j d) + 18446744073709551616 ^ j * l.getD j 0 = uval l + 18446744073709551616 ^ j * d := by
  induction l generalizing j with
  | nil => simp at h
  | cons x l ih =>
    cases j with
    | zero => simp [uval_cons]; omega
    | succ j =>
      have := ih j (by simpa using h)
      simp only [List.set_cons_succ, uval_cons, List.getD_cons_succ, Nat.pow_succ]
      have e1 : 18446744073709551616 ^ j * 18446744073709551616 * l.getD j 0 = 18446744073709551616 * (18446744073709551616 ^ j * l.getD j 0) := by rw [Nat.mul_comm (18446744073709551616 ^ j) 18446744073709551616, Nat.mul_assoc]
      have e2 : 18446744073709551616 ^ j * 18446744073709551616 * d = 18446744073709551616 * (18446744073709551616 ^ j * d) := by rw [Nat.mul_comm (18446744073709551616 ^ j) 18446744073709551616, Nat.mul_assoc]
      rw [e1, e2]; omega
theorem uval_take_succ (l : List Nat) (i : Nat) (h : i < l.length) : uval (l.take (i + 1)) = uval (l.take i) + 18446744073709551616 ^ i * l.getD i 0 := by
  rw [List.take_add_one, uval_app, List.length_take, Nat.min_eq_left (by omega), List.getElem?_eq_getElem h, List.getD_eq_getElem?_getD, List.getElem?_eq_getElem h]
  simp [uval]
theorem limbs_set {l : List Nat} (h : ∀ d ∈ l, d < 18446744073709551616) (j d : Nat) (hd : d < 18446744073709551616) : ∀ x ∈ l.set j d, x < 18446744073709551616 := by
  intro x hx
  rcases List.mem_or_eq_of_mem_set hx with g | g
  · exact h x g
  · omega
theorem limbs_getD {l : List Nat} (h : ∀ d ∈ l, d < 18446744073709551616) (j : Nat) : l.getD j 0 < 18446744073709551616 := by
  by_cases g : j < l.length
  · rw [List.getD_eq_getElem?_getD, List.getElem?_eq_getElem g]; exact h _ (List.getElem_mem g)
  · rw [List.getD_eq_getElem?_getD, List.getElem?_eq_none (by omega)]; decide
/-- one step of a sum with a factor -/
theorem add_step {V V' U P c a a' c' x q S : Nat} (h1 : V + P * c = U + S * q) (h2 : V' + P * a = V + P * a') (h : a' + 18446744073709551616 * c' = a + x * q + c) : V' + P * 18446744073709551616 * c' = U + (S + P * x) * q := by
  have e : P * a' + P * 18446744073709551616 * c' = P * a + P * (x * q) + P * c := by
    rw [Nat.mul_assoc, ← Nat.mul_add, h, Nat.mul_add, Nat.mul_add]
  rw [Nat.add_mul, Nat.mul_assoc P x q]
  omega
theorem sub_step {V V' U P c a a' c' x q S : Nat} (h1 : V + S * q = U + P * c) (h2 : V' + P * a = V + P * a') (h : a' + x * q + c = a + 18446744073709551616 * c') : V' + (S + P * x) * q = U + P * 18446744073709551616 * c' := by
  have e : P * a' + P * (x * q) + P * c = P * a + P * 18446744073709551616 * c' := by
    rw [Nat.mul_assoc P 18446744073709551616, ← Nat.mul_add, ← Nat.mul_add, ← Nat.mul_add, h]
  rw [Nat.add_mul, Nat.mul_assoc P x q]
  omega
/-- what one limb's product and its carries are -/
theorem mul_words {x q hi lo : Nat} (hx : x < 18446744073709551616) (hq : q < 18446744073709551616) (h : x * q = hi * 18446744073709551616 + lo) (hl : lo < 18446744073709551616) : hi ≤ 18446744073709551614 := by
  have h1 : x * q ≤ 18446744073709551615 * 18446744073709551615 := Nat.mul_le_mul (by omega) (by omega)
  omega

/-! ### a row of limbs that is written: the states of the loops -/
/-- 'a += m * q' under way: i limbs of m are in, c is carried -/
structure AddAt (A m : List Nat) (q i c : Nat) (L : List Nat) : Prop where
  len : L.length = A.length
  lims : ∀ d ∈ L, d < 18446744073709551616
  sum : uval L + 18446744073709551616 ^ i * c = uval A + uval (m.take i) * q
theorem AddAt.start {A : List Nat} (m : List Nat) (q : Nat) (h : ∀ d ∈ A, d < 18446744073709551616) : AddAt A m q 0 0 A := ⟨rfl, h, by simp [uval]⟩
theorem AddAt.step {A m L : List Nat} {q i c a' c' : Nat} (h : AddAt A m q i c L) (hi : i < m.length) (hL : i < L.length) (ha : a' < 18446744073709551616) (hs : a' + 18446744073709551616 * c' = L.getD i 0 + m.getD i 0 * q + c) : AddAt A m q (i + 1) c' (L.set i a') := by
  refine ⟨by rw [List.length_set, h.len], limbs_set h.lims _ _ ha, ?_⟩
  rw [Nat.pow_succ, uval_take_succ m i hi]
  exact add_step h.sum (uval_set L i a' hL) hs
theorem AddAt.more {A m L : List Nat} {q i c a' c' : Nat} (h : AddAt A m q i c L) (hi : m.length ≤ i) (hL : i < L.length) (ha : a' < 18446744073709551616) (hs : a' + 18446744073709551616 * c' = L.getD i 0 + c) : AddAt A m q (i + 1) c' (L.set i a') := by
  refine ⟨by rw [List.length_set, h.len], limbs_set h.lims _ _ ha, ?_⟩
  have e := h.sum
  rw [List.take_of_length_le (by omega)] at e ⊢
  have := add_step (S := uval m) (x := 0) (a := L.getD i 0) (a' := a') (c' := c') e (uval_set L i a' hL) (by omega)
  rw [Nat.pow_succ]
  simpa using this
/-- at the end: what stands, and whether something was carried out -/
theorem AddAt.done {A m L : List Nat} {q i c : Nat} (h : AddAt A m q i c L) (hi : m.length ≤ i) (hn : i ≤ A.length) (hc : c = 0 ∨ i = A.length) :
    L = fix A.length (uval A + uval m * q) ∧ (0 < c ↔ 18446744073709551616 ^ A.length ≤ uval A + uval m * q) := by
  have e := h.sum
  rw [List.take_of_length_le hi] at e
  have hlt := uval_lt' L h.lims
  rw [h.len] at hlt
  have hp := bpos A.length
  have e2 : uval L + 18446744073709551616 ^ A.length * c = uval A + uval m * q := by
    rcases hc with rfl | rfl
    · simpa using e
    · exact e
  rw [← e2]
  refine ⟨uval_inj h.lims (fix_limbs _ _) (by rw [fix_length, h.len]) (by rw [uval_fix, Nat.add_mul_mod_self_left, Nat.mod_eq_of_lt hlt]), ?_⟩
  generalize 18446744073709551616 ^ A.length = p at *
  constructor
  · intro h0
    have := Nat.le_mul_of_pos_right p h0
    omega
  · intro h0
    refine Nat.pos_of_ne_zero fun g => ?_
    subst g; simp at h0; omega
/-- 'a -= m * q' under way -/
structure SubAt (A m : List Nat) (q i c : Nat) (L : List Nat) : Prop where
  len : L.length = A.length
  lims : ∀ d ∈ L, d < 18446744073709551616
  sum : uval L + uval (m.take i) * q = uval A + 18446744073709551616 ^ i * c
theorem SubAt.start {A : List Nat} (m : List Nat) (q : Nat) (h : ∀ d ∈ A, d < 18446744073709551616) : SubAt A m q 0 0 A := ⟨rfl, h, by simp [uval]⟩
theorem SubAt.step {A m L : List Nat} {q i c a' c' : Nat} (h : SubAt A m q i c L) (hi : i < m.length) (hL : i < L.length) (ha : a' < 18446744073709551616) (hs : a' + m.getD i 0 * q + c = L.getD i 0 + 18446744073709551616 * c') : SubAt A m q (i + 1) c' (L.set i a') := by
  refine ⟨by rw [List.length_set, h.len], limbs_set h.lims _ _ ha, ?_⟩
  rw [Nat.pow_succ, uval_take_succ m i hi]
  exact sub_step h.sum (uval_set L i a' hL) hs
theorem SubAt.more {A m L : List Nat} {q i c a' c' : Nat} (h : SubAt A m q i c L) (hi : m.length ≤ i) (hL : i < L.length) (ha : a' < 18446744073709551616) (hs : a' + c = L.getD i 0 + 18446744073709551616 * c') : SubAt A m q (i + 1) c' (L.set i a') := by
  refine ⟨by rw [List.length_set, h.len], limbs_set h.lims _ _ ha, ?_⟩
  have e := h.sum
  rw [List.take_of_length_le (by omega)] at e ⊢
  have := sub_step (S := uval m) (x := 0) (a := L.getD i 0) (a' := a') (c' := c') e (uval_set L i a' hL) (by omega)
  rw [Nat.pow_succ]
  simpa using this
theorem SubAt.done {A m L : List Nat} {q i c : Nat} (h : SubAt A m q i c L) (hi : m.length ≤ i) (hn : i ≤ A.length) (hc : c = 0 ∨ i = A.length) :
    ∃ c', uval L + uval m * q = uval A + 18446744073709551616 ^ A.length * c' ∧ (0 < c ↔ uval A < uval m * q) ∧ (c' = 0 ↔ c = 0) := by
  have e := h.sum
  rw [List.take_of_length_le hi] at e
  have hlt := uval_lt' L h.lims
  rw [h.len] at hlt
  have e2 : uval L + uval m * q = uval A + 18446744073709551616 ^ A.length * c := by
    rcases hc with rfl | rfl
    · simpa using e
    · exact e
  refine ⟨c, e2, ?_, Iff.rfl⟩
  generalize 18446744073709551616 ^ A.length = p at *
  constructor
  · intro h0
    have := Nat.le_mul_of_pos_right p h0
    omega
  · intro h0
    refine Nat.pos_of_ne_zero fun g => ?_
    subst g; simp at e2; omega

/-! ### shifts -/
/-- 'a << k' under way: i limbs are in; y: the limb below -/
structure UpAt (A : List Nat) (s k i y : Nat) (L : List Nat) : Prop where
  len : L.length = s + A.length + 1
  lims : ∀ d ∈ L, d < 18446744073709551616
  ylt : y < 18446744073709551616
  nought : ∀ j, s + i ≤ j → L.getD j 0 = 0
  sum : uval L + 18446744073709551616 ^ (s + i) * (y / 2 ^ (64 - k)) = uval (A.take i) * 2 ^ k * 18446744073709551616 ^ s
theorem getD_replicate (n j : Nat) : (List.replicate n 0).getD j 0 = 0 := by
  rw [List.getD_eq_getElem?_getD, List.getElem?_replicate]; split <;> rfl
theorem UpAt.start (A : List Nat) (s k : Nat) : UpAt A s k 0 0 (List.replicate (s + A.length + 1) 0) :=
  ⟨by simp, fun d h => by simp at h; omega, by decide, fun j _ => getD_replicate _ _, by rw [uval_noughts]; simp [uval]⟩
theorem getD_set' (l : List Nat) (j d i : Nat) (h : j < l.length) : (l.set j d).getD i 0 = if j = i then d else l.getD i 0 := by
  rw [List.getD_eq_getElem?_getD, List.getElem?_set]
  by_cases e : j = i
  · subst e; simp [h]
  · simp [e]
theorem up_word (x y k : Nat) (hk : k ≤ 63) (hx : x < 18446744073709551616) (hy : y < 18446744073709551616) :
    x * 2 ^ k % 18446744073709551616 + y / 2 ^ (64 - k) < 18446744073709551616 ∧ (x * 2 ^ k % 18446744073709551616) ||| (y / 2 ^ (64 - k)) = x * 2 ^ k % 18446744073709551616 + y / 2 ^ (64 - k) ∧
    x * 2 ^ k = x * 2 ^ k % 18446744073709551616 + 18446744073709551616 * (x / 2 ^ (64 - k)) := by
  have e : (18446744073709551616 : Nat) = 2 ^ (64 - k) * 2 ^ k := by rw [← Nat.pow_add, show 64 - k + k = 64 by omega]
  have hp : 0 < 2 ^ k := Nat.pow_pos (by decide)
  have hq : 0 < 2 ^ (64 - k) := Nat.pow_pos (by decide)
  have h1 : x * 2 ^ k % 18446744073709551616 = x % 2 ^ (64 - k) * 2 ^ k := by rw [e, Nat.mul_mod_mul_right]
  have h2 : y / 2 ^ (64 - k) < 2 ^ k := Nat.div_lt_of_lt_mul (by rw [← e]; exact hy)
  have h3 : x % 2 ^ (64 - k) * 2 ^ k + 2 ^ k ≤ 18446744073709551616 := by
    rw [e, ← Nat.succ_mul]; exact Nat.mul_le_mul_right _ (Nat.mod_lt _ hq)
  refine ⟨by rw [h1]; omega, ?_, ?_⟩
  · rw [h1, Nat.mul_comm, ← Nat.two_pow_add_eq_or_of_lt h2]
  · rw [h1, e, Nat.mul_comm (2 ^ (64 - k)) (2 ^ k), Nat.mul_assoc, Nat.mul_comm (x % 2 ^ (64 - k)) (2 ^ k), ← Nat.mul_add, Nat.add_comm, Nat.div_add_mod, Nat.mul_comm]
theorem UpAt.step {A L : List Nat} {s k i y x : Nat} (h : UpAt A s k i y L) (hk : k ≤ 63) (hi : i < A.length) (hx : x = A.getD i 0) (hA : ∀ d ∈ A, d < 18446744073709551616) :
    UpAt A s k (i + 1) x (L.set (s + i) (x * 2 ^ k % 18446744073709551616 + y / 2 ^ (64 - k))) := by
  have hl := h.len
  have hx2 : x < 18446744073709551616 := by rw [hx]; exact limbs_getD hA i
  obtain ⟨w1, _, w3⟩ := up_word x y k hk hx2 h.ylt
  have hset := uval_set L (s + i) (x * 2 ^ k % 18446744073709551616 + y / 2 ^ (64 - k)) (by omega)
  rw [h.nought (s + i) (Nat.le_refl _), Nat.mul_zero, Nat.add_zero] at hset
  refine ⟨by simp [hl], limbs_set h.lims _ _ w1, hx2, ?_, ?_⟩
  · intro j hj
    rw [getD_set' _ _ _ _ (by omega), if_neg (by omega)]
    exact h.nought j (by omega)
  · have e := h.sum
    rw [hset, uval_take_succ A i hi, ← hx, ← Nat.add_assoc s i 1, Nat.pow_succ, Nat.add_mul, Nat.add_mul, ← e, Nat.mul_add]
    have e4 : 18446744073709551616 ^ i * x * 2 ^ k * 18446744073709551616 ^ s = 18446744073709551616 ^ (s + i) * (x * 2 ^ k) := by
      rw [Nat.pow_add, Nat.mul_assoc (18446744073709551616 ^ i) x, Nat.mul_comm (18446744073709551616 ^ i * (x * 2 ^ k)), Nat.mul_assoc]
    have e5 : 18446744073709551616 ^ (s + i) * (x * 2 ^ k) = 18446744073709551616 ^ (s + i) * (x * 2 ^ k % 18446744073709551616) + 18446744073709551616 ^ (s + i) * 18446744073709551616 * (x / 2 ^ (64 - k)) := by
      conv => lhs; rw [w3]
      rw [Nat.mul_add, Nat.mul_assoc]
    rw [e4, e5]
    omega
theorem UpAt.done {A L : List Nat} {s k y : Nat} (h : UpAt A s k A.length y L) (hk : k ≤ 63) :
    (∀ d ∈ L.set (s + A.length) (y / 2 ^ (64 - k)), d < 18446744073709551616) ∧ uval (L.set (s + A.length) (y / 2 ^ (64 - k))) = uval A * 2 ^ (64 * s + k) := by
  have hl := h.len
  have hset := uval_set L (s + A.length) (y / 2 ^ (64 - k)) (by omega)
  rw [h.nought (s + A.length) (Nat.le_refl _), Nat.mul_zero, Nat.add_zero, h.sum, List.take_length] at hset
  refine ⟨limbs_set h.lims _ _ (Nat.lt_of_le_of_lt (Nat.div_le_self _ _) h.ylt), ?_⟩
  rw [hset, Nat.pow_add, ← bpow, Nat.mul_assoc, Nat.mul_comm (2 ^ k)]
/-- 'a >> k' under way, from above: the limbs from i on are in; y: the limb above -/
structure DownAt (A : List Nat) (k i y : Nat) (L : List Nat) : Prop where
  len : L.length = A.length
  le : i ≤ A.length
  lims : ∀ d ∈ L, d < 18446744073709551616
  low : ∀ j, j < i → L.getD j 0 = A.getD j 0
  y : y = A.getD i 0
  top : uval (L.drop i) = uval (A.drop i) / 2 ^ k
theorem DownAt.start {A : List Nat} (k : Nat) (h : ∀ d ∈ A, d < 18446744073709551616) : DownAt A k A.length 0 A :=
  ⟨rfl, Nat.le_refl _, h, fun _ _ => rfl, by rw [List.getD_eq_getElem?_getD, List.getElem?_eq_none (Nat.le_refl _)]; rfl, by simp [uval]⟩
theorem uval_drop' (l : List Nat) (i : Nat) (h : i < l.length) : uval (l.drop i) = l.getD i 0 + 18446744073709551616 * uval (l.drop (i + 1)) := by
  rw [List.drop_eq_getElem_cons h, uval_cons, List.getD_eq_getElem?_getD, List.getElem?_eq_getElem h]; rfl
theorem uval_drop_mod (l : List Nat) (i : Nat) (k : Nat) (hk : k ≤ 63) : uval (l.drop i) % 2 ^ k = l.getD i 0 % 2 ^ k := by
  by_cases h : i < l.length
  · rw [uval_drop' l i h, show (18446744073709551616 : Nat) = 2 ^ k * 2 ^ (64 - k) by rw [← Nat.pow_add, show k + (64 - k) = 64 by omega], Nat.mul_assoc, Nat.add_mul_mod_self_left]
  · rw [List.drop_eq_nil_of_le (by omega), List.getD_eq_getElem?_getD, List.getElem?_eq_none (by omega)]; rfl
theorem down_word (x y k Y : Nat) (hk : k ≤ 63) (hx : x < 18446744073709551616) (hY : Y % 2 ^ k = y % 2 ^ k) :
    x / 2 ^ k + y * 2 ^ (64 - k) % 18446744073709551616 < 18446744073709551616 ∧ (x / 2 ^ k) ||| (y * 2 ^ (64 - k) % 18446744073709551616) = x / 2 ^ k + y * 2 ^ (64 - k) % 18446744073709551616 ∧
    (x + 18446744073709551616 * Y) / 2 ^ k = x / 2 ^ k + y * 2 ^ (64 - k) % 18446744073709551616 + 18446744073709551616 * (Y / 2 ^ k) := by
  have e : (18446744073709551616 : Nat) = 2 ^ k * 2 ^ (64 - k) := by rw [← Nat.pow_add, show k + (64 - k) = 64 by omega]
  have hp : 0 < 2 ^ k := Nat.pow_pos (by decide)
  have hq : 0 < 2 ^ (64 - k) := Nat.pow_pos (by decide)
  have h1 : y * 2 ^ (64 - k) % 18446744073709551616 = y % 2 ^ k * 2 ^ (64 - k) := by rw [e, Nat.mul_mod_mul_right]
  have h2 : x / 2 ^ k < 2 ^ (64 - k) := Nat.div_lt_of_lt_mul (by rw [← e]; exact hx)
  have h3 : y % 2 ^ k * 2 ^ (64 - k) + 2 ^ (64 - k) ≤ 18446744073709551616 := by
    rw [e, ← Nat.succ_mul]; exact Nat.mul_le_mul_right _ (Nat.mod_lt _ hp)
  refine ⟨by rw [h1]; omega, ?_, ?_⟩
  · rw [h1, Nat.or_comm, Nat.mul_comm, ← Nat.two_pow_add_eq_or_of_lt h2, Nat.add_comm]
  · rw [h1, ← hY]
    have e1 : x + 18446744073709551616 * Y = x + 2 ^ k * (2 ^ (64 - k) * Y) := by rw [← Nat.mul_assoc, ← e]
    rw [e1, Nat.add_mul_div_left _ _ hp, Nat.add_assoc]
    congr 1
    conv => lhs; rw [← Nat.div_add_mod Y (2 ^ k)]
    rw [Nat.mul_add, Nat.add_comm, Nat.mul_comm (2 ^ (64 - k)) (Y % 2 ^ k), ← Nat.mul_assoc, Nat.mul_comm (2 ^ (64 - k)) (2 ^ k), ← e]
theorem drop_set_same (l : List Nat) (i d : Nat) (h : i < l.length) : (l.set i d).drop i = d :: l.drop (i + 1) := by
  rw [List.drop_eq_getElem_cons (by simpa using h), List.getElem_set_self, List.drop_set_of_lt (by omega)]
theorem DownAt.step {A L : List Nat} {k i y x : Nat} (h : DownAt A k (i + 1) y L) (hk : k ≤ 63) (hA : ∀ d ∈ A, d < 18446744073709551616) (hx : x = A.getD i 0) :
    DownAt A k i x (L.set i (x / 2 ^ k + y * 2 ^ (64 - k) % 18446744073709551616)) := by
  have hl := h.len
  have hle := h.le
  have hx2 : x < 18446744073709551616 := by rw [hx]; exact limbs_getD hA i
  obtain ⟨w1, _, w3⟩ := down_word x y k (uval (A.drop (i + 1))) hk hx2 (by rw [h.y]; exact uval_drop_mod A (i + 1) k hk)
  refine ⟨by simp [hl], by omega, limbs_set h.lims _ _ w1, ?_, hx, ?_⟩
  · intro j hj
    rw [getD_set' _ _ _ _ (by omega), if_neg (by omega)]
    exact h.low j (by omega)
  · rw [drop_set_same _ _ _ (by omega), uval_cons, h.top, uval_drop' A i (by omega), ← hx, w3]
theorem DownAt.done {A L : List Nat} {k y : Nat} (h : DownAt A k 0 y L) (hk : k ≤ 63) : uval L = uval A / 2 ^ k ∧ (y * 2 ^ (64 - k) % 18446744073709551616 ≠ 0 ↔ uval A % 2 ^ k ≠ 0) := by
  refine ⟨by simpa using h.top, ?_⟩
  have e : (18446744073709551616 : Nat) = 2 ^ k * 2 ^ (64 - k) := by rw [← Nat.pow_add, show k + (64 - k) = 64 by omega]
  have hq : 0 < 2 ^ (64 - k) := Nat.pow_pos (by decide)
  have h1 := uval_drop_mod A 0 k hk
  rw [List.drop_zero, ← h.y] at h1
  rw [h1, e, Nat.mul_mod_mul_right]
  constructor
  · intro g g2; rw [g2, Nat.zero_mul] at g; exact g rfl
  · intro g g2
    rcases Nat.mul_eq_zero.1 g2 with g3 | g3
    · exact g g3
    · omega
/-! ### division by one limb, where the number stands -/
structure CutAt (A : List Nat) (d i r : Nat) (L : List Nat) : Prop where
  len : L.length = A.length
  le : i ≤ A.length
  lims : ∀ d ∈ L, d < 18446744073709551616
  low : ∀ j, j < i → L.getD j 0 = A.getD j 0
  left : r = uval (A.drop i) % d
  top : uval (L.drop i) = uval (A.drop i) / d
theorem CutAt.start {A : List Nat} (d : Nat) (h : ∀ d ∈ A, d < 18446744073709551616) : CutAt A d A.length 0 A :=
  ⟨rfl, Nat.le_refl _, h, fun _ _ => rfl, by simp [uval], by simp [uval]⟩
theorem CutAt.step {A L : List Nat} {d i r x q r' : Nat} (h : CutAt A d (i + 1) r L) (hA : ∀ d ∈ A, d < 18446744073709551616) (hd : 0 < d) (hx : x = A.getD i 0) (hq : q = (r * 18446744073709551616 + x) / d) (hr : r' = (r * 18446744073709551616 + x) % d) :
    CutAt A d i r' (L.set i q) := by
  have hl := h.len
  have hle := h.le
  have hx2 : x < 18446744073709551616 := by rw [hx]; exact limbs_getD hA i
  have hrd : r < d := by rw [h.left]; exact Nat.mod_lt _ hd
  have e : uval (A.drop i) = (r * 18446744073709551616 + x) + d * (18446744073709551616 * (uval (A.drop (i + 1)) / d)) := by
    rw [uval_drop' A i (by omega), ← hx, h.left]
    generalize uval (A.drop (i + 1)) = Y
    have := Nat.div_add_mod Y d
    rw [← Nat.mul_assoc, Nat.mul_comm d, Nat.mul_assoc]
    omega
  refine ⟨by simp [hl], by omega, limbs_set h.lims _ _ ?_, ?_, ?_, ?_⟩
  · rw [hq]; exact Nat.div_lt_of_lt_mul (by
      have := Nat.mul_le_mul_right 18446744073709551616 (show r + 1 ≤ d from hrd)
      omega)
  · intro j hj
    rw [getD_set' _ _ _ _ (by omega), if_neg (by omega)]
    exact h.low j (by omega)
  · rw [e, Nat.add_mul_mod_self_left, hr]
  · rw [drop_set_same _ _ _ (by omega), uval_cons, h.top, e, Nat.add_mul_div_left _ _ hd, hq]
theorem CutAt.done {A L : List Nat} {d r : Nat} (h : CutAt A d 0 r L) : L = fix A.length (uval A / d) ∧ r = uval A % d := by
  have h1 := h.top
  have h2 := h.left
  rw [List.drop_zero] at h1 h2
  rw [List.drop_zero] at h1
  exact ⟨uval_inj h.lims (fix_limbs _ _) (by rw [fix_length, h.len]) (by
    have := uval_lt' L h.lims
    rw [uval_fix, ← h1, Nat.mod_eq_of_lt (by rw [← h.len]; exact this)]), h2⟩

/-! ### long division -/
theorem uval_top (l : List Nat) (i : Nat) : uval l = uval (l.take i) + 18446744073709551616 ^ (min i l.length) * uval (l.drop i) := by
  conv => lhs; rw [← List.take_append_drop i l]
  rw [uval_app, List.length_take]
theorem guess_le {A m : List Nat} {n dn u1 u0 : Nat} (hm : m.length = n + 1) (hA : A.length = n + 2) (hAl : ∀ d ∈ A, d < 18446744073709551616) (hd : dn = m.getD n 0) (h1 : u1 = A.getD (n + 1) 0) (h0 : u0 = A.getD n 0) (hp : 0 < dn) :
    uval A / uval m ≤ (u1 * 18446744073709551616 + u0) / dn := by
  have eA : uval A = uval (A.take n) + 18446744073709551616 ^ n * (u0 + 18446744073709551616 * u1) := by
    rw [uval_top A n, Nat.min_eq_left (by omega), uval_drop' A n (by omega), uval_drop' A (n + 1) (by omega), List.drop_eq_nil_of_le (by omega), ← h0, ← h1]
    simp [uval]
  have em : uval m = uval (m.take n) + 18446744073709551616 ^ n * dn := by
    rw [uval_top m n, Nat.min_eq_left (by omega), uval_drop' m n (by omega), List.drop_eq_nil_of_le (by omega), ← hd]
    simp [uval]
  have hlow : uval (A.take n) < 18446744073709551616 ^ n := by
    have := uval_lt' (A.take n) (fun d h => hAl d (List.mem_of_mem_take h))
    rwa [List.length_take, Nat.min_eq_left (by omega)] at this
  rw [Nat.le_div_iff_mul_le hp]
  have ht := Nat.div_mul_le_self (uval A) (uval m)
  generalize uval A / uval m = t at *
  have hB := bpos n
  generalize 18446744073709551616 ^ n = p at *
  have e1 : t * uval m = t * uval (m.take n) + p * (t * dn) := by rw [em, Nat.mul_add, Nat.mul_left_comm]
  rw [e1, eA] at ht
  have e2 : p * (t * dn) < p * (u0 + 18446744073709551616 * u1 + 1) := by rw [Nat.mul_add p _ 1]; omega
  have e3 := Nat.lt_of_mul_lt_mul_left e2
  omega
/-- the state of a guessed quotient: L + D q = U, or a whole turn more -/
theorem quot_first {A m L : List Nat} {q c c' : Nat} (hm : A.length = m.length + 1) (hml : ∀ d ∈ m, d < 18446744073709551616) (hq : q < 18446744073709551616) (hqu : uval A / uval m ≤ q) (h0 : 0 < uval m)
    (hll : ∀ d ∈ L, d < 18446744073709551616) (hlen : L.length = A.length) (he : uval L + uval m * q = uval A + 18446744073709551616 ^ A.length * c') (hc : 0 < c ↔ uval A < uval m * q) (hcc : c' = 0 ↔ c = 0) :
    (0 < c ∧ uval L + uval m * q = uval A + 18446744073709551616 ^ A.length) ∨ (c = 0 ∧ q = uval A / uval m ∧ uval L = uval A % uval m) := by
  have hL := uval_lt' L hll
  rw [hlen] at hL
  have hM := uval_lt' m hml
  have hMq : uval m * q < 18446744073709551616 ^ A.length := by
    rw [hm, Nat.pow_succ]
    exact Nat.mul_lt_mul'' hM hq
  by_cases g : c = 0
  · right
    have g2 : c' = 0 := hcc.2 g
    subst g2
    rw [Nat.mul_zero, Nat.add_zero] at he
    have hge : q ≤ uval A / uval m := by rw [Nat.le_div_iff_mul_le h0, Nat.mul_comm]; omega
    have hqe : q = uval A / uval m := Nat.le_antisymm hge hqu
    refine ⟨g, hqe, ?_⟩
    have := Nat.div_add_mod (uval A) (uval m)
    rw [← hqe] at this
    omega
  · left
    have hc1 : c' = 1 := by
      have h1 : c' ≠ 0 := fun h => g (hcc.1 h)
      have h2 : ¬ 2 ≤ c' := fun h => by
        have := Nat.mul_le_mul_left (18446744073709551616 ^ A.length) h
        omega
      omega
    subst hc1
    exact ⟨by omega, by omega⟩
theorem quot_next {A m L : List Nat} {q : Nat} (h0 : 0 < uval m) (hll : ∀ d ∈ L, d < 18446744073709551616) (hlen : L.length = A.length) (hA : uval A < 18446744073709551616 ^ A.length) (he : uval L + uval m * q = uval A + 18446744073709551616 ^ A.length) :
    0 < q ∧ ((18446744073709551616 ^ A.length ≤ uval L + uval m ∧ q - 1 = uval A / uval m ∧ (uval L + uval m) % 18446744073709551616 ^ A.length = uval A % uval m) ∨
      (uval L + uval m < 18446744073709551616 ^ A.length ∧ (uval L + uval m) + uval m * (q - 1) = uval A + 18446744073709551616 ^ A.length)) := by
  have hL := uval_lt' L hll
  rw [hlen] at hL
  have hq : 0 < q := Nat.pos_of_ne_zero fun g => by subst g; simp at he; omega
  obtain ⟨r, rfl⟩ : ∃ r, q = r + 1 := ⟨q - 1, by omega⟩
  rw [Nat.add_sub_cancel]
  rw [Nat.mul_add, Nat.mul_one] at he
  refine ⟨hq, ?_⟩
  generalize 18446744073709551616 ^ A.length = p at *
  by_cases g : p ≤ uval L + uval m
  · left
    have hlt : uval L + uval m - p < uval m := by omega
    have e1 : uval A = (uval L + uval m - p) + uval m * r := by omega
    have e2 : r = uval A / uval m := by rw [e1, Nat.add_mul_div_left _ _ h0, Nat.div_eq_of_lt hlt]; omega
    have e3 : uval L + uval m - p = uval A % uval m := by rw [e1, Nat.add_mul_mod_self_left, Nat.mod_eq_of_lt hlt]
    refine ⟨g, e2, ?_⟩
    rw [← e3]
    have e4 : uval L + uval m = (uval L + uval m - p) + p := by omega
    conv => lhs; rw [e4]
    rw [Nat.add_mod_right, Nat.mod_eq_of_lt]
    have : uval A % uval m < p := by
      rw [← e3]
      have : uval A % uval m ≤ uval A := Nat.mod_le _ _
      omega
    omega
  · right
    exact ⟨by omega, by omega⟩
/-- long division under way: the places from i on are told -/
structure DivAt (U : Nat) (m : List Nat) (i : Nat) (R Q : List Nat) : Prop where
  len : R.length = Q.length + m.length
  le : i ≤ Q.length
  rl : ∀ d ∈ R, d < 18446744073709551616
  ql : ∀ d ∈ Q, d < 18446744073709551616
  low : ∀ j, j < i → Q.getD j 0 = 0
  sum : uval R + uval m * uval Q = U
  top : uval (R.drop i) < uval m
theorem DivAt.parts {U : Nat} {m : List Nat} {i : Nat} {R Q : List Nat} (h : DivAt U m (i + 1) R Q) (hml : ∀ d ∈ m, d < 18446744073709551616) :
    R = R.take i ++ (R.drop i).take (m.length + 1) ++ R.drop (i + (m.length + 1)) ∧ ((R.drop i).take (m.length + 1)).length = m.length + 1 ∧ uval (R.drop (i + (m.length + 1))) = 0 ∧
    uval (R.drop i) = uval ((R.drop i).take (m.length + 1)) ∧ uval ((R.drop i).take (m.length + 1)) < uval m * 18446744073709551616 := by
  have hl := h.len
  have hle := h.le
  have hM := uval_lt' m hml
  have e0 : uval (R.drop (i + (m.length + 1))) = 0 := by
    have h1 := uval_top (R.drop (i + 1)) m.length
    rw [List.length_drop, Nat.min_eq_left (by omega), List.drop_drop] at h1
    have h2 := h.top
    rw [show i + 1 + m.length = i + (m.length + 1) by omega] at h1
    refine Nat.eq_zero_of_not_pos fun g => ?_
    have := Nat.le_mul_of_pos_right (18446744073709551616 ^ m.length) g
    omega
  have e1 : uval (R.drop i) = uval ((R.drop i).take (m.length + 1)) := by
    have h1 := uval_top (R.drop i) (m.length + 1)
    rw [List.drop_drop, e0, Nat.mul_zero, Nat.add_zero] at h1
    exact h1
  refine ⟨?_, by rw [List.length_take, List.length_drop]; omega, e0, e1, ?_⟩
  · rw [List.append_assoc, ← List.drop_drop, List.take_append_drop, List.take_append_drop]
  · rw [← e1, uval_drop' R i (by omega)]
    have h2 := h.top
    have h3 := limbs_getD h.rl i
    rw [Nat.mul_comm]
    omega
theorem DivAt.step {U : Nat} {m : List Nat} {i x : Nat} {R Q : List Nat} (h : DivAt U m (i + 1) R Q) (hml : ∀ d ∈ m, d < 18446744073709551616) (h0 : 0 < uval m) (hx : x = uval ((R.drop i).take (m.length + 1))) :
    DivAt U m i (R.take i ++ fix (m.length + 1) (x % uval m) ++ R.drop (i + (m.length + 1))) (Q.set i (x / uval m)) := by
  have hl := h.len
  have hle := h.le
  obtain ⟨e1, e2, e3, e4, e5⟩ := h.parts hml
  rw [← hx] at e4 e5
  have hM := uval_lt' m hml
  have hr : x % uval m < uval m := Nat.mod_lt _ h0
  have hf : uval (fix (m.length + 1) (x % uval m)) = x % uval m := by
    rw [uval_fix, Nat.mod_eq_of_lt]
    exact Nat.lt_of_lt_of_le (Nat.lt_trans hr hM) (Nat.pow_le_pow_right (by decide) (by omega))
  have hti : (R.take i).length = i := by rw [List.length_take]; omega
  refine ⟨?_, by rw [List.length_set]; omega, ?_, limbs_set h.ql _ _ ?_, ?_, ?_, ?_⟩
  · rw [List.length_append, List.length_append, hti, fix_length, List.length_drop, List.length_set]; omega
  · intro d hd
    rcases List.mem_append.1 hd with g | g
    · rcases List.mem_append.1 g with g | g
      · exact h.rl d (List.mem_of_mem_take g)
      · exact fix_mem _ _ _ g
    · exact h.rl d (List.mem_of_mem_drop g)
  · exact Nat.div_lt_of_lt_mul e5
  · intro j hj
    rw [getD_set' _ _ _ _ (by omega), if_neg (by omega)]
    exact h.low j (by omega)
  · have es := h.sum
    have eR := uval_top R i
    rw [Nat.min_eq_left (by omega), e4] at eR
    have eQ := uval_set Q i (x / uval m) (by omega)
    rw [h.low i (by omega), Nat.mul_zero, Nat.add_zero] at eQ
    rw [eQ, List.append_assoc, uval_app, hti, uval_app, e3, hf, Nat.mul_zero, Nat.add_zero, ← es, eR]
    have ed := Nat.div_add_mod x (uval m)
    conv => rhs; rw [← ed]
    rw [Nat.mul_add (uval m), Nat.mul_add (18446744073709551616 ^ i), Nat.mul_left_comm (uval m)]
    generalize 18446744073709551616 ^ i * (uval m * (x / uval m)) = a1
    generalize 18446744073709551616 ^ i * (x % uval m) = a2
    generalize uval m * uval Q = a3
    generalize uval (R.take i) = a4
    clear h hml h0 hx e1 e2 e3 e4 e5 hM hr hf hti es eR eQ ed hl hle
    omega
  · rw [List.append_assoc, List.drop_append_of_le_length (by omega), List.drop_eq_nil_of_le (by omega), List.nil_append, uval_app, e3, hf]
    rw [Nat.mul_zero, Nat.add_zero]; exact hr
theorem DivAt.done {U : Nat} {m R Q : List Nat} (h : DivAt U m 0 R Q) : uval Q = U / uval m ∧ uval R = U % uval m := by
  have h1 := h.top
  rw [List.drop_zero] at h1
  have h0 : 0 < uval m := by omega
  rw [← h.sum]
  exact ⟨by rw [Nat.add_mul_div_left _ _ h0, Nat.div_eq_of_lt h1]; omega, by rw [Nat.add_mul_mod_self_left, Nat.mod_eq_of_lt h1]⟩
end Go.Proofs.YtckmmdmimlhmoaaDoor
