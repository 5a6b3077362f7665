import Derived.Test.YtckmmdmimlhmoaaDoorNatQ
namespace Go.Proofs.YtckmmdmimlhmoaaDoor
open Go.ChangeShapes Go.WideShapes Go.ChangeAt Go.RowKit
set_option linter.unusedVariables false
set_option linter.unusedSimpArgs false
set_option maxRecDepth 100000

/-! ### sums and products of a list of numbers -/
theorem RowU.own_lt' {w : World} {v : Value} {l : List Nat} (h : RowU w v l) (h0 : l ≠ []) : ∃ g, v.ownBlock = some g ∧ g < w.heap.size := by
  obtain ⟨ao, c, rfl, _, _, h⟩ := h
  rcases h with h | ⟨b, off, rfl, hlt, _⟩
  · exact absurd h h0
  · exact ⟨b, rfl, hlt⟩
theorem RowUU.out {w : World} {v : Value} {L : List (List Nat)} (h : RowUU w v L) : ∃ ao c, v = .slice ao L.length c ∧ c ≤ 9223372036854775807 ∧ L.length ≤ c ∧
    (L.length = 0 ∨ ∃ b off, ao = some ⟨b, off, none⟩ ∧ b < w.heap.size ∧ ∀ j, j < L.length → ∃ u, w.cell? ⟨b, off + j, none⟩ = some u ∧ RowU w u (L.getD j [])) := by
  obtain ⟨ao, c, rfl, hc, hl, h⟩ := h
  refine ⟨ao, c, rfl, hc, hl, ?_⟩
  rcases h with h | h
  · exact .inl (by rw [h]; rfl)
  · exact .inr h
theorem getD_mem {L : List (List Nat)} {i : Nat} (h : i < L.length) : L.getD i [] ∈ L := by
  rw [List.getD_eq_getElem?_getD, List.getElem?_eq_getElem h]; exact List.getElem_mem h
theorem sum_take (L : List (List Nat)) (f : List Nat → Nat) (i : Nat) (h : i < L.length) : ((L.take (i + 1)).map f).sum = ((L.take i).map f).sum + f (L.getD i []) := by
  rw [List.take_add_one, List.getElem?_eq_getElem h, List.getD_eq_getElem?_getD, List.getElem?_eq_getElem h, List.map_append, List.sum_append]
  simp only [Option.toList_some, List.map_cons, List.map_nil, List.sum_cons, List.sum_nil, Option.getD_some, Nat.add_zero]
theorem prod_take (L : List (List Nat)) (f : List Nat → Nat) (i : Nat) (h : i < L.length) : ((L.take (i + 1)).map f).prod = ((L.take i).map f).prod * f (L.getD i []) := by
  rw [List.take_add_one, List.getElem?_eq_getElem h, List.getD_eq_getElem?_getD, List.getElem?_eq_getElem h, List.map_append, List.prod_append]
  simp only [Option.toList_some, List.map_cons, List.map_nil, List.prod_cons, List.prod_nil, Option.getD_some, Nat.mul_one]
theorem mem_sum_le (L : List (List Nat)) (l : List Nat) (h : l ∈ L) : l.length ≤ (L.map List.length).sum := by
  induction L with
  | nil => cases h
  | cons m L ih =>
    rw [List.map_cons, List.sum_cons]
    rcases List.mem_cons.1 h with rfl | g
    · omega
    · have := ih g; omega
theorem take_sum_le (L : List (List Nat)) (i : Nat) : ((L.take i).map List.length).sum ≤ (L.map List.length).sum := by
  conv => rhs; rw [← List.take_append_drop i L]
  rw [List.map_append, List.sum_append]; omega
theorem prod_zero (L : List (List Nat)) : (L.map uval).prod = 0 ↔ ∃ l ∈ L, uval l = 0 := by
  induction L with
  | nil => simp
  | cons m L ih =>
    rw [List.map_cons, List.prod_cons, Nat.mul_eq_zero, ih]
    constructor
    · rintro (h | ⟨l, h1, h2⟩)
      · exact ⟨m, List.mem_cons_self .., h⟩
      · exact ⟨l, List.mem_cons_of_mem _ h1, h2⟩
    · rintro ⟨l, h1, h2⟩
      rcases List.mem_cons.1 h1 with rfl | g
      · exact .inl h2
      · exact .inr ⟨l, g, h2⟩

set_option maxHeartbeats 4000000 in
theorem natindex_any (v : Value) (L : List (List Nat)) (hl : ∀ l ∈ L, Limbs l) (w : World) (h : RowUU w v L) :
    Calls Tryd.prog 39 #[v, .func (.func 21) #[] #[]] w fun e w' => (∃ r : Int, e = .returned (.int .i64 r) ∧ -1 ≤ r ∧ r ≤ 9223372036854775806 ∧ (0 ≤ r ↔ (L.map uval).prod = 0)) ∧ w' = w := by
  obtain ⟨ao, c, rfl, hc, hcl, h⟩ := h.out
  refine cps fun Q hQ => ?_
  have HL : Hid (∀ l ∈ L, Limbs l) := hl
  have HP : Hid ((L.map uval).prod = 0 ↔ ∃ l ∈ L, uval l = 0) := prod_zero L
  clear hl
  go_enter Tryd.func39, Tryd.ntmps39
  go_wp2
  go_loop [8] (fun iv => ∃ i : Nat, i ≤ L.length ∧ iv = .int .i64 i ∧ Hid (∀ j, j < i → uval (L.getD j []) ≠ 0)) (fun iv => L.length - (intOf iv).toNat)
  case atStart => exact ⟨0, Nat.zero_le _, rfl, fun j hj => by omega⟩
  case round =>
    obtain ⟨i, hi, rfl, hst⟩ := hrel
    by_cases hlt : i < L.length
    · rcases h with h | ⟨b, off, rfl, hbl, h⟩
      · omega
      obtain ⟨u, hcell, hrow⟩ := h i hlt
      have hmem := getD_mem hlt
      have hn := natnought_any u (L.getD i []) (HL.out _ hmem) w hrow
      have HN : Hid (Calls _ _ _ _ _) := hn
      have HR : Hid (RowU w u (L.getD i [])) := hrow
      clear hrow h hn
      by_cases hz : uval (L.getD i []) = 0
      · have hd : decide (uval (L.getD i []) = 0) = true := decide_eq_true hz
        rw [hd] at HN
        have HZ : Hid (∃ l ∈ L, uval l = 0) := ⟨_, hmem, hz⟩
        clear hd hz hmem
        go_wp2_with (go_at_call 21; refine HN.out.mono ?_; rintro e w' ⟨rfl, hw⟩; rw [hw]; clear hw w')
        exact hQ.out _ _ ⟨⟨(i : Int), rfl, by omega, by omega, ⟨fun _ => HP.out.2 HZ.out, fun _ => by omega⟩⟩, rfl⟩
      · have hd : decide (uval (L.getD i []) = 0) = false := decide_eq_false hz
        rw [hd] at HN
        have HZ : Hid (uval (L.getD i []) ≠ 0) := hz
        clear hd hz hmem
        go_wp2_with (go_at_call 21; refine HN.out.mono ?_; rintro e w' ⟨rfl, hw⟩; rw [hw]; clear hw w')
        go_round
        case rel => exact ⟨i + 1, by omega, by go_num, fun j hj => by
          by_cases g : j = i
          · subst g; exact HZ.out
          · exact hst.out j (by omega)⟩
        case measure => simp [intOf]; omega
    · have HQ : Hid (¬ ∃ l ∈ L, uval l = 0) := fun ⟨l, h1, h2⟩ => by
        obtain ⟨j, hj, he⟩ := List.getElem_of_mem h1
        have := hst.out j (by omega)
        rw [List.getD_eq_getElem?_getD, List.getElem?_eq_getElem hj] at this
        exact this (by rw [← h2, ← he]; rfl)
      go_wp2
      exact hQ.out _ _ ⟨⟨-1, rfl, by omega, by omega, ⟨fun h => by omega, fun h => absurd (HP.out.1 h) HQ.out⟩⟩, rfl⟩
theorem natcontains_any (v : Value) (L : List (List Nat)) (hl : ∀ l ∈ L, Limbs l) (w : World) (h : RowUU w v L) :
    Calls Tryd.prog 20 #[v, .func (.func 21) #[] #[]] w fun e w' => e = .returned (.bool (decide ((L.map uval).prod = 0))) ∧ w' = w := by
  have hn := natindex_any v L hl w h
  have HN : Hid (Calls _ _ _ _ _) := hn
  clear hn h hl
  refine cps fun Q hQ => ?_
  generalize (L.map uval).prod = p at *
  by_cases hp : p = 0
  · subst hp
    go_enter Tryd.func20, Tryd.ntmps20
    go_wp2_with (go_at_call 39; refine HN.out.mono ?_; rintro e w' ⟨⟨r, rfl, h1, h2, h3⟩, hw⟩; rw [hw]; clear hw w'; have h4 := h3.2 rfl; clear h3)
    exact hQ.out _ _ ⟨rfl, rfl⟩
  · have hd : decide (p = 0) = false := decide_eq_false hp
    rw [hd] at hQ
    have HP : Hid (p ≠ 0) := hp
    clear hp hd
    go_enter Tryd.func20, Tryd.ntmps20
    go_wp2_with (go_at_call 39; refine HN.out.mono ?_; rintro e w' ⟨⟨r, rfl, h1, h2, h3⟩, hw⟩; rw [hw]; clear hw w'; have h4 : ¬ 0 ≤ r := fun h => HP.out (h3.1 h); have h5 : r = -1 := (by omega); clear h3 h4 h1 h2; subst h5)
    exact hQ.out _ _ ⟨rfl, rfl⟩

theorem natof_own (x : Nat) (hx : x < 18446744073709551616) (w : World) :
    Calls Tryd.prog 22 #[.int .u64 x] w fun e w' => ∃ v, e = .returned v ∧ OwnU w.heap.size w' v x ∧ Below w.heap.size w w' := by
  have hb : Blk (w.alloc (.cells #[.int .u64 (x : Int)] 42)) w.heap.size [x] := ⟨[], World.alloc_heap_new _ _⟩
  have hc := cut_own' w.heap.size 1 w.heap.size [x] (fun y hy => by simp at hy; omega) (by decide) (Nat.le_refl _) (Nat.le_refl _) _ hb
  have e : uval [x] = x := by simp [uval]
  rw [e] at hc
  have HC : Hid (Calls _ _ _ _ _) := hc
  clear hc e hb
  refine cps fun Q hQ => ?_
  go_enter Tryd.func22, Tryd.ntmps22
  go_wp2_with (go_at_call 18; refine HC.out.mono ?_; rintro e w' ⟨⟨v, rfl, hr⟩, hw⟩; rw [hw]; clear hw w')
  exact hQ.out _ _ ⟨_, rfl, hr, bmore (Below.refl _ _) _⟩

set_option maxHeartbeats 4000000 in
theorem natmul_own (v : Value) (L : List (List Nat)) (hl : ∀ l ∈ L, Limbs l) (hb : L.length + (L.map List.length).sum ≤ 16777216) (w : World) (h : RowUU w v L) :
    Calls Tryd.prog 8 #[v] w fun e w' => ∃ v', e = .returned v' ∧ OwnU w.heap.size w' v' (L.map uval).prod ∧ Below w.heap.size w w' := by
  have hcon := natcontains_any v L hl w h
  obtain ⟨ao, c, rfl, hc, hcl, hrows⟩ := h.out
  have HCON : Hid (Calls _ _ _ _ _) := hcon
  have HL : Hid (∀ l ∈ L, Limbs l) := hl
  clear hcon hl h
  refine cps fun Q hQ => ?_
  by_cases hz : (L.map uval).prod = 0
  · have hd : decide ((L.map uval).prod = 0) = true := decide_eq_true hz
    rw [hd] at HCON
    rw [hz] at hQ
    clear hd hz hrows hb
    go_enter Tryd.func8, Tryd.ntmps8
    go_wp2_with (go_at_call 20; refine HCON.out.mono ?_; rintro e w' ⟨rfl, hw⟩; rw [hw]; clear hw w')
    exact hQ.out _ _ ⟨_, rfl, OwnU.nil _ _, Below.refl _ _⟩
  · have hd : decide ((L.map uval).prod = 0) = false := decide_eq_false hz
    rw [hd] at HCON
    clear hd hz
    have HB : Hid (L.length + (L.map List.length).sum ≤ 16777216) := hb
    have hlb : L.length ≤ 16777216 := by omega
    clear hb
    have HOF := natof_own 1 (by decide)
    go_enter Tryd.func8, Tryd.ntmps8
    go_wp2_with (first
      | (go_at_call 20; refine HCON.out.mono ?_; rintro e w' ⟨rfl, hw⟩; rw [hw]; clear hw w')
      | (go_at_call 22; refine (HOF _).mono ?_; rintro e w1 ⟨v1, rfl, hv1, hb1⟩))
    clear HOF HCON
    have HV1 : Hid (OwnU w.heap.size w1 v1 1) := hv1
    have HB1 : Hid (Below w.heap.size w w1) := hb1
    clear hv1 hb1
    go_loopw [3, 11] (fun pv iv wr => ∃ (i p : Nat), i ≤ L.length ∧ iv = .int .i64 i ∧ Hid (p = ((L.take i).map uval).prod) ∧ Hid ((lim p).length ≤ ((L.take i).map List.length).sum + 1) ∧ Hid (OwnU w.heap.size wr pv p) ∧ Hid (Below w.heap.size w wr)) (fun _ iv _ => L.length - (intOf iv).toNat)
    case atStart => exact ⟨0, 1, Nat.zero_le _, rfl, rfl, (by show _ ≤ _; rw [lim_pos (by decide)]; simp [lim_zero]), HV1.out, HB1.out⟩
    case round =>
      obtain ⟨i, p, hi, rfl, hp, hpl, hown, hbel⟩ := hrel
      by_cases hlt : i < L.length
      · rcases hrows with h | ⟨b, off, rfl, hbl, h⟩
        · omega
        obtain ⟨u, hcell, hrow⟩ := h i hlt
        replace hcell := (hbel.out.cell (p := ⟨b, off + i, none⟩) hbl).trans hcell
        have hmem := getD_mem hlt
        have hll := HL.out _ hmem
        have hcut := natcut_any u (L.getD i []) hll wr (hrow.below hbel.out)
        have hlen := lim_le_length _ hll
        have hs1 := sum_take L List.length i hlt
        have hs2 := take_sum_le L (i + 1)
        have hs0 := take_sum_le L i
        have hbb := HB.out
        have hpl' := hpl.out
        have htm := fun vb h => times_own _ vb (lim p) (lim (uval (L.getD i []))) (lim_limbs _) (lim_limbs _) (by omega) wr hown.out.row h
        have hml := lim_mul_length p (uval (L.getD i []))
        have hp2 : p * uval (L.getD i []) = ((L.take (i + 1)).map uval).prod := by rw [prod_take L uval i hlt, ← hp.out]
        rw [uval_lim, uval_lim] at htm
        have hpl2 : (lim (p * uval (L.getD i []))).length ≤ ((L.take (i + 1)).map List.length).sum + 1 := by omega
        have HCUT : Hid (Calls _ _ _ _ _) := hcut
        have HTM : Hid (∀ vb, RowU wr vb (lim (uval (L.getD i []))) → Calls _ _ _ _ _) := htm
        have HP2 : Hid (p * uval (L.getD i []) = ((L.take (i + 1)).map uval).prod) := hp2
        have HPL2 : Hid ((lim (p * uval (L.getD i []))).length ≤ ((L.take (i + 1)).map List.length).sum + 1) := hpl2
        clear hcut htm hml hp2 hpl2 hpl' hbb hs0 hs1 hs2 hlen hll hmem hrow h
        go_wp2_with (first
          | (go_at_call 18; refine HCUT.out.mono ?_; rintro e w' ⟨v2, rfl, hr2, hw⟩; rw [hw]; clear hw w')
          | (go_at_call 23; refine (HTM.out _ hr2).mono ?_; rintro e w3 ⟨v3, rfl, hv3, hb3⟩))
        go_roundw
        case rel => exact ⟨i + 1, p * uval (L.getD i []), by omega, by go_num, HP2.out, HPL2.out, hv3.mono hbel.out.size, hbel.out.trans (hb3.mono hbel.out.size)⟩
        case measure => simp [intOf]; omega
      · have hil : i = L.length := by omega
        subst hil
        have hp' := hp.out
        rw [List.take_length] at hp'
        have HO : Hid (OwnU w.heap.size wr _ (L.map uval).prod) := hp' ▸ hown.out
        clear hp' hp hpl hown
        go_wp2
        exact hQ.out _ _ ⟨_, rfl, HO.out, hbel.out⟩

theorem sum_le_pow (L : List (List Nat)) (k : Nat) (i : Nat) (h : ∀ j, j < i → uval (L.getD j []) < 18446744073709551616 ^ k) (hi : i ≤ L.length) : ((L.take i).map uval).sum ≤ i * 18446744073709551616 ^ k := by
  induction i with
  | zero => simp
  | succ i ih =>
    rw [sum_take L uval i (by omega), Nat.succ_mul]
    have h1 := ih (fun j hj => h j (by omega)) (by omega)
    have h2 := h i (by omega)
    omega
theorem sum_lt_pow {L : List (List Nat)} {k i : Nat} (h : ∀ j, j < L.length → uval (L.getD j []) < 18446744073709551616 ^ k) (hi : i ≤ L.length) (hL : L.length ≤ 16777216) : ((L.take i).map uval).sum < 18446744073709551616 ^ (k + 1) := by
  have h1 := sum_le_pow L k i (fun j hj => h j (by omega)) hi
  have h2 := bpos k
  rw [Nat.pow_succ, Nat.mul_comm]
  refine Nat.lt_of_le_of_lt h1 (Nat.mul_lt_mul_of_pos_right (by omega) h2)
set_option maxHeartbeats 4000000 in
theorem natadd_own (v : Value) (L : List (List Nat)) (hl : ∀ l ∈ L, Limbs l) (hb : L.length + (L.map List.length).sum ≤ 16777216) (w : World) (h : RowUU w v L) :
    Calls Tryd.prog 6 #[v] w fun e w' => ∃ v', e = .returned v' ∧ OwnU w.heap.size w' v' (L.map uval).sum ∧ Below w.heap.size w w' := by
  obtain ⟨i0, hi0, hz0, hz1, hz2⟩ := info_parts infoU64
  obtain ⟨ao, c, rfl, hc, hcl, hrows⟩ := h.out
  have HL : Hid (∀ l ∈ L, Limbs l) := hl
  have HB : Hid (L.length + (L.map List.length).sum ≤ 16777216) := hb
  have hlb : L.length ≤ 16777216 := by omega
  clear hl h hb
  refine cps fun Q hQ => ?_
  go_enter Tryd.func6, Tryd.ntmps6
  go_wp2
  go_loop [3, 11] (fun lv iv => ∃ i k : Nat, i ≤ L.length ∧ k ≤ 16777216 ∧ lv = .int .i64 k ∧ iv = .int .i64 i ∧ Hid (∀ j, j < i → (lim (uval (L.getD j []))).length ≤ k)) (fun _ iv => L.length - (intOf iv).toNat)
  case atStart => exact ⟨0, 0, Nat.zero_le _, Nat.zero_le _, rfl, rfl, fun j hj => by omega⟩
  case round =>
    obtain ⟨i, k, hi, hk, rfl, rfl, hst⟩ := hrel
    by_cases hlt : i < L.length
    · rcases hrows with h | ⟨b, off, rfl, hbl, h⟩
      · omega
      obtain ⟨u, hcell, hrow⟩ := h i hlt
      have hmem := getD_mem hlt
      have hll := HL.out _ hmem
      have hcut := natcut_any u (L.getD i []) hll w hrow
      have hlen := lim_le_length _ hll
      have hls := mem_sum_le L _ hmem
      have hbb := HB.out
      have hm : (lim (uval (L.getD i []))).length ≤ 16777216 := by omega
      have HCUT : Hid (Calls _ _ _ _ _) := hcut
      obtain ⟨n, HN⟩ : ∃ n, Hid ((lim (uval (L.getD i []))).length = n) := ⟨_, rfl⟩
      rw [HN.out] at hm
      obtain ⟨k', hk'⟩ : ∃ k', k' = max k n := ⟨_, rfl⟩
      have hk1 : k ≤ k' := by omega
      have hk2 : n ≤ k' := by omega
      have hk3 : k' ≤ 16777216 := by omega
      have hk4 : max (k : Int) (n : Int) = (k' : Int) := by omega
      have hk5 : max (n : Int) (k : Int) = (k' : Int) := by omega
      clear hcut hlen hls hbb hmem hll hrow h hk'
      go_wp2_with (go_at_call 18; refine HCUT.out.mono ?_; rintro e w' ⟨v2, rfl, ⟨ao2, c2, rfl, hc2, hl2, _⟩, hw⟩; rw [hw]; clear hw w'; rw [HN.out])
      go_round
      case rel => exact ⟨i + 1, k', by omega, hk3, by first | rfl | (simp; omega), by go_num, fun j hj => by
          by_cases g : j = i
          · subst g; have := HN.out; omega
          · have := hst.out j (by omega); omega⟩
      case measure => simp [intOf]; omega
    · have hil : i = L.length := by omega
      have hall : ∀ j, j < L.length → uval (L.getD j []) < 18446744073709551616 ^ k := fun j hj => by
        refine Nat.lt_of_lt_of_le (lim_lt_pow _) (Nat.pow_le_pow_right (by decide) (hst.out j (by omega)))
      have HALL : Hid (∀ j, j < L.length → uval (L.getD j []) < 18446744073709551616 ^ k) := hall
      have HK : Hid (∀ j, j < L.length → (lim (uval (L.getD j []))).length ≤ k) := fun j hj => hst.out j (by omega)
      clear hall hst hil
      go_wp2_with (at_make; go_must (refine wpList_make_full _ rfl _ _ 23 rfl w.heap.size 42 i0 (.int .u64 0) 1 Tryd.underlying23 hi0 hz0 hz1 .i64 .i64 _ _ (k + 1) rfl rfl (by omega) (by omega) (by rw [hz2]; omega) (by unfold maxLen; omega) (Nat.le_refl _) ?_); intro w1 hown hg)
      rw [made_u64] at hown
      have hbk := (blk_own hown).1
      have hbel := (Below.refl w.heap.size w).grown hg (Nat.le_refl _) (fun k hk => by cases hk)
      clear hown hg hi0 hz0 hz1 hz2 hlt hi
      go_loopw [26] (fun iv wr => ∃ (i : Nat) (S : List Nat), i ≤ L.length ∧ iv = .int .i64 i ∧ Hid (S.length = k + 1 ∧ Limbs S ∧ uval S = ((L.take i).map uval).sum) ∧ Hid (Blk wr w.heap.size S) ∧ Hid (Below w.heap.size w wr)) (fun iv _ => L.length - (intOf iv).toNat)
      case atStart => exact ⟨0, List.replicate (k + 1) 0, Nat.zero_le _, rfl, ⟨by simp, fun d h => by simp at h; omega, by rw [uval_noughts]; simp⟩, hbk, hbel⟩
      case round =>
        clear hbk hbel
        obtain ⟨i, S, hi, rfl, hst, hbk, hbel⟩ := hrel
        by_cases hlt : i < L.length
        · rcases hrows with h | ⟨b, off, rfl, hbl, h⟩
          · omega
          obtain ⟨u, hcell, hrow⟩ := h i hlt
          replace hcell := (hbel.out.cell (p := ⟨b, off + i, none⟩) hbl).trans hcell
          have hmem := getD_mem hlt
          have hll := HL.out _ hmem
          have hcut := natcut_own u (L.getD i []) hll wr (hrow.below hbel.out)
          obtain ⟨k1, k2, k3⟩ := hst.out
          have hki := HK.out i hlt
          have hsum := sum_lt_pow HALL.out (show i + 1 ≤ L.length from hlt) hlb
          rw [sum_take L uval i hlt, ← k3] at hsum
          have hadd := fun vb h hne => addt_any w.heap.size (k + 1) 1 [] S [] (lim (uval (L.getD i []))) vb k2 (lim_limbs _) (by decide) (by omega) (by omega) (by omega) (by simp; omega) wr (by simpa using hbk.out) h hne
          simp only [List.nil_append, List.append_nil, List.length_nil, uval_lim, Nat.mul_one, k1] at hadd
          have hne : ∀ vb, Value.ownBlock vb = Value.ownBlock u → lim (uval (L.getD i [])) ≠ [] → Value.ownBlock vb ≠ some w.heap.size := fun vb e h => by
            obtain ⟨g, hg1, hg2⟩ := hrow.own_lt' (fun e2 => by rw [e2] at h; exact h (by rw [uval_nil, lim_zero]))
            rw [e, hg1]; intro e3; injection e3 with e3; omega
          have hfx : (fix (k + 1) (uval S + uval (L.getD i []))).length = k + 1 ∧ Limbs (fix (k + 1) (uval S + uval (L.getD i []))) ∧ uval (fix (k + 1) (uval S + uval (L.getD i []))) = ((L.take (i + 1)).map uval).sum :=
            ⟨fix_length _ _, fix_limbs _ _, by rw [uval_fix, Nat.mod_eq_of_lt hsum, sum_take L uval i hlt, ← k3]⟩
          generalize fix (k + 1) (uval S + uval (L.getD i [])) = S' at *
          generalize decide (18446744073709551616 ^ (k + 1) ≤ uval S + uval (L.getD i [])) = r at *
          have HADD : Hid (∀ vb, RowU wr vb (lim (uval (L.getD i []))) → (lim (uval (L.getD i [])) ≠ [] → Value.ownBlock vb ≠ some w.heap.size) → Calls _ _ _ _ _) := hadd
          have HNE : Hid (∀ vb, Value.ownBlock vb = Value.ownBlock u → lim (uval (L.getD i [])) ≠ [] → Value.ownBlock vb ≠ some w.heap.size) := hne
          have HFX : Hid _ := hfx
          have HCUT : Hid (Calls _ _ _ _ _) := hcut
          clear hadd hne hfx hcut hsum hki k1 k2 k3 hll hmem hrow h hst hbk
          go_wp2_with (first
            | (go_at_call 18; refine HCUT.out.mono ?_; rintro e w' ⟨v2, rfl, hr2, hw, ho2⟩; rw [hw]; clear hw w')
            | (go_at_call 19; refine (HADD.out _ hr2 (HNE.out _ ho2)).mono ?_; rintro e w3 ⟨rfl, hb3, hg3⟩))
          go_roundw
          case rel => exact ⟨i + 1, S', by omega, by go_num, HFX.out, hb3, hbel.out.trans (grown_below hg3 (Nat.le_refl _) hbel.out.size)⟩
          case measure => simp [intOf]; omega
        · have hil : i = L.length := by omega
          subst hil
          obtain ⟨k1, k2, k3⟩ := hst.out
          rw [List.take_length] at k3
          have hcut := cut_own' w.heap.size (k + 1) w.heap.size S k2 (by omega) (by omega) (Nat.le_refl _) wr hbk.out
          rw [k1, k3] at hcut
          have HCUT : Hid (Calls _ _ _ _ _) := hcut
          clear hcut k1 k2 k3 hst hbk
          go_wp2_with (go_at_call 18; refine HCUT.out.mono ?_; rintro e w' ⟨⟨v', rfl, hv⟩, hw⟩; rw [hw]; clear hw w')
          exact hQ.out _ _ ⟨_, rfl, hv, hbel.out⟩
end Go.Proofs.YtckmmdmimlhmoaaDoor
