import Derived.Test.YtckmmdmimlhmoaaDoorNatX
namespace Go.Proofs.YtckmmdmimlhmoaaDoor
open Go.ChangeShapes Go.WideShapes Go.ChangeAt Go.RowKit Go.Shelf
set_option linter.unusedVariables false
set_option linter.unusedSimpArgs false
set_option maxRecDepth 100000
attribute [local go_sem] Oper.semAt_some

/-! ### quotients -/
/-- the divisor with its highest bit at the top of its limb -/
theorem norm_len {b k n : Nat} (hn : (lim b).length = n + 1) (hk : k = 64 - blen ((lim b).getD n 0)) :
    (lim (b * 2 ^ k)).length = n + 1 ∧ k ≤ 63 ∧ 18446744073709551616 ^ n ≤ b := by
  have hll := lim_limbs b
  have ht0 := (lim_tail (lim b) hll).2 (n + 1) (by rw [uval_lim]; exact hn) (by omega)
  rw [Nat.add_sub_cancel] at ht0
  have htl := limbs_getD hll n
  have e := uval_top (lim b) n
  rw [Nat.min_eq_left (by omega), uval_drop' (lim b) n (by omega), List.drop_eq_nil_of_le (by omega), uval_nil, Nat.mul_zero, Nat.add_zero, uval_lim] at e
  have hlow : uval ((lim b).take n) < 18446744073709551616 ^ n := by
    have := uval_lt' ((lim b).take n) (fun d h => hll d (List.mem_of_mem_take h))
    rwa [List.length_take, Nat.min_eq_left (by omega)] at this
  generalize (lim b).getD n 0 = t at *
  have h1 : t < 2 ^ blen t := blen_le.1 (Nat.le_refl _)
  have h2 : blen t ≤ 64 := blen_le.2 (by omega)
  have h3 : blen t ≠ 0 := fun h => by
    have := blen_le.1 (Nat.le_of_eq h)
    omega
  have hp := bpos n
  have hge : 18446744073709551616 ^ n ≤ b := by
    have := Nat.le_mul_of_pos_right (18446744073709551616 ^ n) (Nat.pos_of_ne_zero ht0)
    omega
  have hpk : 0 < 2 ^ k := Nat.pow_pos (by decide)
  have hub : b * 2 ^ k < 18446744073709551616 ^ (n + 1) := by
    have h4 : b < 18446744073709551616 ^ n * 2 ^ blen t := by
      have := Nat.mul_le_mul_left (18446744073709551616 ^ n) (show t + 1 ≤ 2 ^ blen t from h1)
      rw [Nat.mul_add, Nat.mul_one] at this
      omega
    have h5 := Nat.mul_lt_mul_of_pos_right h4 hpk
    rw [Nat.mul_assoc, ← Nat.pow_add, show blen t + k = 64 by omega] at h5
    rw [Nat.pow_succ]; exact h5
  refine ⟨?_, by omega, hge⟩
  have h6 := lim_length_le hub
  by_cases h7 : (lim (b * 2 ^ k)).length = n + 1
  · exact h7
  · exfalso
    have h8 := lim_lt_pow (b * 2 ^ k)
    have h9 : (18446744073709551616 : Nat) ^ (lim (b * 2 ^ k)).length ≤ 18446744073709551616 ^ n := Nat.pow_le_pow_right (by decide) (by omega)
    have h10 := Nat.le_mul_of_pos_right b hpk
    omega
theorem div_start {a b k n : Nat} {R m : List Nat} {N : Nat} (hR : R.length = (lim a).length + 1) (hRl : Limbs R) (hRv : uval R = a * 2 ^ k) (hm : m = lim (b * 2 ^ k)) (hml : m.length = n + 1) (hb : 18446744073709551616 ^ n ≤ b) (hN : N + (n + 1) = (lim a).length + 1) :
    DivAt (a * 2 ^ k) m N R (List.replicate N 0) := by
  refine ⟨by rw [List.length_replicate, hR, hml]; omega, by simp, hRl, fun d h => by simp at h; omega, fun j hj => getD_replicate _ _, by rw [uval_noughts, hRv]; simp, ?_⟩
  have e := uval_top R N
  rw [Nat.min_eq_left (by omega), hRv] at e
  rw [hm, uval_lim]
  have ha := lim_lt_pow a
  have hp : 0 < 2 ^ k := Nat.pow_pos (by decide)
  have h1 : a * 2 ^ k < 18446744073709551616 ^ N * (b * 2 ^ k) := by
    rw [← Nat.mul_assoc]
    refine Nat.mul_lt_mul_of_pos_right ?_ hp
    refine Nat.lt_of_lt_of_le ha ?_
    rw [show (lim a).length = N + n by omega, Nat.pow_add]
    exact Nat.mul_le_mul_left _ hb
  have h2 : 18446744073709551616 ^ N * uval (R.drop N) ≤ a * 2 ^ k := by rw [e]; exact Nat.le_add_left _ _
  exact Nat.lt_of_mul_lt_mul_left (Nat.lt_of_le_of_lt h2 h1)

/-- what Div hands out: two numbers, each in a block of its own -/
def TwoU (B : Nat) (w : World) (v1 v2 : Value) (x y : Nat) : Prop :=
  ∃ B', B ≤ B' ∧ OwnU B w v1 x ∧ (∀ g, v1.ownBlock = some g → g < B') ∧ OwnU B' w v2 y
set_option maxHeartbeats 1000000 in
theorem natdiv_zero (va vb : Value) (l m : List Nat) (hl : Limbs l) (hm : Limbs m) (hb : l.length ≤ 16777216) (hc : m.length ≤ 16777216) (h0 : uval m = 0) (w : World) (h : RowU w va l) (g : RowU w vb m) :
    Calls Tryd.prog 10 #[va, vb] w fun e w' => e = .returned (.tuple #[.slice none 0 0, .slice none 0 0, .iface 44 (.int .i64 4)]) ∧ Below w.heap.size w w' := by
  have k1 := natcut_raw va l hl w h
  have k2 := natcut_raw vb m hm w g
  have hm0 : (lim (uval m)).length = 0 := by rw [h0, lim_zero]; rfl
  rw [hm0] at k2
  obtain ⟨aa, ca, rfl, _⟩ := h
  obtain ⟨ab, cb, rfl, _⟩ := g
  have K1 : Hid (Calls Tryd.prog 18 #[.slice aa l.length ca] w fun e w' => e = .returned (.slice aa (lim (uval l)).length (lim (uval l)).length) ∧ w' = w) := k1.mono fun e w' ⟨⟨a5, c5, he, h5⟩, hw⟩ => ⟨by injection he with q1 q2 q3; rw [q1]; exact h5, hw⟩
  have K2 : Hid (Calls Tryd.prog 18 #[.slice ab m.length cb] w fun e w' => e = .returned (.slice ab 0 0) ∧ w' = w) := k2.mono fun e w' ⟨⟨a5, c5, he, h5⟩, hw⟩ => ⟨by injection he with q1 q2 q3; rw [q1]; exact h5, hw⟩
  have hX := K1
  clear k1 k2 h0 hm0 hX
  refine (callsIn_wide (n := 8)).1 ?_
  refine callsIn_of_wp_marks Tryd.func10 rfl trivial ?_ rfl
  simp only [Tryd.ntmps10, List.size_toArray, List.length_cons, List.length_nil, Nat.reduceAdd, Nat.reduceSub, Array.replicate_succ, Array.replicate_zero, List.push_toArray, List.append_toArray, List.nil_append, List.cons_append]
  refine wpIn_wide.2 ?_
  go_wp2_with (first
    | (go_at_call_of 18 aa; refine K1.out.mono ?_; rintro e w' ⟨rfl, hw⟩; rw [hw]; clear hw w')
    | (go_at_call_of 18 ab; refine K2.out.mono ?_; rintro e w' ⟨rfl, hw⟩; rw [hw]; clear hw w'))
  exact ⟨.tuple #[.slice none 0 0, .slice none 0 0, .iface 44 (.int .i64 4)], by simp [results, Tryd.results10, go_sem], rfl, Below.refl _ _⟩
set_option maxHeartbeats 4000000 in
theorem natdiv_lt (va vb : Value) (l m : List Nat) (hl : Limbs l) (hm : Limbs m) (hb : l.length ≤ 16777216) (hc : m.length ≤ 16777216) (hlt : uval l < uval m) (w : World) (h : RowU w va l) (g : RowU w vb m) :
    Calls Tryd.prog 10 #[va, vb] w fun e w' => ∃ v2, e = .returned (.tuple #[.slice none 0 0, v2, .nilIface]) ∧ OwnU w.heap.size w' v2 (uval l) ∧ Below w.heap.size w w' := by
  have k1 := natcut_raw va l hl w h
  have k2 := natcut_raw vb m hm w g
  have hra := h
  have hrb := g
  obtain ⟨aa, ca, rfl, hca, hla, _⟩ := h
  obtain ⟨ab, cb, rfl, hcb, hlb, _⟩ := g
  have K1 : Hid (Calls Tryd.prog 18 #[.slice aa l.length ca] w fun e w' => e = .returned (.slice aa (lim (uval l)).length (lim (uval l)).length) ∧ w' = w) := k1.mono fun e w' ⟨⟨a5, c5, he, h5⟩, hw⟩ => ⟨by injection he with q1 q2 q3; rw [q1]; exact h5, hw⟩
  have K2 : Hid (Calls Tryd.prog 18 #[.slice ab m.length cb] w fun e w' => e = .returned (.slice ab (lim (uval m)).length (lim (uval m)).length) ∧ w' = w) := k2.mono fun e w' ⟨⟨a5, c5, he, h5⟩, hw⟩ => ⟨by injection he with q1 q2 q3; rw [q1]; exact h5, hw⟩
  have hla2 := lim_le_length l hl
  have hlb2 := lim_le_length m hm
  have hra2 := hra.take _ hla2
  rw [lim_take l hl] at hra2
  have hrb2 := hrb.take _ hlb2
  rw [lim_take m hm] at hrb2
  have HRA : Hid (RowU w (.slice aa (lim (uval l)).length (lim (uval l)).length) (lim (uval l))) := hra2
  have HRB : Hid (RowU w (.slice ab (lim (uval m)).length (lim (uval m)).length) (lim (uval m))) := hrb2
  have k3 := natcmp_any _ _ _ _ (lim_limbs (uval l)) (lim_limbs (uval m)) (by omega) (by omega) w hra2 hrb2
  rw [uval_lim, uval_lim] at k3
  rw [cmpN_lt hlt] at k3
  have K3 : Hid (Calls _ _ _ _ _) := k3
  have hmp : 0 < (lim (uval m)).length := Nat.pos_of_ne_zero fun h => by rw [lim_nil.1 h] at hlt; omega
  have k4 := fun w' hbw => natclone_any (.slice aa (lim (uval l)).length (lim (uval l)).length) (lim (uval l)) (by omega) w' (RowU.below hra2 hbw)
  have K4 : Hid (∀ w', Below w.heap.size w w' → Calls _ _ _ _ _) := k4
  have kn := natcut_raw (.slice none 0 0) [] (fun d hd => by cases hd) 
  have hlL : (lim (uval l)).length ≤ 16777216 := by omega
  obtain ⟨LA, hLA⟩ : ∃ x, x = (lim (uval l)).length := ⟨_, rfl⟩
  obtain ⟨LB, hLB⟩ : ∃ x, x = (lim (uval m)).length := ⟨_, rfl⟩
  have HLA : Hid (LA = (lim (uval l)).length) := hLA
  rw [← hLA] at K1 K3 K4 hlL
  rw [← hLB] at K2 K3 hmp
  have hb0 : ((LB : Int) == 0) = false := by simp; omega
  clear k1 k2 k3 k4 hra hrb hra2 hrb2 hlt hLA hLB HRA HRB hla2 hlb2 hl hm kn
  refine (callsIn_wide (n := 8)).1 ?_
  refine callsIn_of_wp_marks Tryd.func10 rfl trivial ?_ rfl
  simp only [Tryd.ntmps10, List.size_toArray, List.length_cons, List.length_nil, Nat.reduceAdd, Nat.reduceSub, Array.replicate_succ, Array.replicate_zero, List.push_toArray, List.append_toArray, List.nil_append, List.cons_append]
  refine wpIn_wide.2 ?_
  go_wp2_with (first
    | (go_at_call_of 18 aa; refine K1.out.mono ?_; rintro e w' ⟨rfl, hw⟩; rw [hw]; clear hw w')
    | (go_at_call_of 18 ab; refine K2.out.mono ?_; rintro e w' ⟨rfl, hw⟩; rw [hw]; clear hw w')
    | (go_at_call 24; refine K3.out.mono ?_; rintro e w1 ⟨rfl, hb1⟩)
    | (go_at_call 25; refine (K4.out _ hb1).mono ?_; rintro e w2 ⟨v2, rfl, hcp, hb2⟩
       have HCP : Hid (Copy w1.heap.size w2 v2 (lim (uval l))) := hcp
       have HB2 : Hid (Below w.heap.size w w2) := hb1.trans (hb2.mono hb1.size)
       have hcut : ∃ v3, OwnU w.heap.size w2 v3 (uval l) ∧ Calls Tryd.prog 18 #[v2] w2 fun e w' => e = .returned v3 ∧ w' = w2 := (by
         obtain ⟨ao1, c1, rfl, hc1, hc2, hsh⟩ := hcp.shape
         have hrow : RowU w2 (.slice ao1 (lim (uval l)).length c1) (lim (uval l)) := by
           rcases hsh with h0 | ⟨g, rfl, hg, hbk⟩
           · exact ⟨ao1, c1, rfl, hc2, hc1, .inl (List.length_eq_zero_iff.1 h0)⟩
           · exact Blk.row (P := []) (A := lim (uval l)) (R := []) (by simpa using hbk) c1 hc1 hc2
         have kc := natcut_raw _ _ (lim_limbs (uval l)) w2 hrow
         rw [uval_lim] at kc
         refine ⟨.slice ao1 (lim (uval l)).length (lim (uval l)).length, ⟨ao1, rfl, by omega, ?_⟩, kc.mono fun e w' ⟨⟨a5, c5, he, h5⟩, hw⟩ => ⟨by injection he with q1 q2 q3; rw [q1]; exact h5, hw⟩⟩
         rcases hsh with h0 | ⟨g, rfl, hg, hbk⟩
         · exact .inl (List.length_eq_zero_iff.1 h0)
         · exact .inr ⟨g, 0, rfl, by have := hb1.size; omega, by simpa using hbk⟩)
       obtain ⟨v3, hv3, hcut⟩ := hcut
       have HV3 : Hid (OwnU w.heap.size w2 v3 (uval l)) := hv3
       have HCUT : Hid (Calls _ _ _ _ _) := hcut
       clear hcp hb2 hv3 hcut)
    | (go_at_call_of 18 v2; refine HCUT.out.mono ?_; rintro e w' ⟨rfl, hw⟩; rw [hw]; clear hw w'))
  exact ⟨.tuple #[.slice none 0 0, v3, .nilIface], by simp [results, Tryd.results10, go_sem], _, rfl, HV3.out, HB2.out⟩
set_option maxHeartbeats 8000000 in
theorem natdiv_ge (va vb : Value) (l m : List Nat) (hl : Limbs l) (hm : Limbs m) (hb : l.length ≤ 16777216) (hc : m.length ≤ 16777216) (h0 : 0 < uval m) (hge : uval m ≤ uval l) (w : World) (h : RowU w va l) (g : RowU w vb m) :
    Calls Tryd.prog 10 #[va, vb] w fun e w' => ∃ v1 v2, e = .returned (.tuple #[v1, v2, .nilIface]) ∧ TwoU w.heap.size w' v1 v2 (uval l / uval m) (uval l % uval m) ∧ Below w.heap.size w w' := by
  have k1 := natcut_raw va l hl w h
  have k2 := natcut_raw vb m hm w g
  have hra := h
  have hrb := g
  obtain ⟨aa, ca, rfl, hca, hla, _⟩ := h
  obtain ⟨ab, cb, rfl, hcb, hlb, _⟩ := g
  have K1 : Hid (Calls Tryd.prog 18 #[.slice aa l.length ca] w fun e w' => e = .returned (.slice aa (lim (uval l)).length (lim (uval l)).length) ∧ w' = w) := k1.mono fun e w' ⟨⟨a5, c5, he, h5⟩, hw⟩ => ⟨by injection he with q1 q2 q3; rw [q1]; exact h5, hw⟩
  have K2 : Hid (Calls Tryd.prog 18 #[.slice ab m.length cb] w fun e w' => e = .returned (.slice ab (lim (uval m)).length (lim (uval m)).length) ∧ w' = w) := k2.mono fun e w' ⟨⟨a5, c5, he, h5⟩, hw⟩ => ⟨by injection he with q1 q2 q3; rw [q1]; exact h5, hw⟩
  have hla2 := lim_le_length l hl
  have hlb2 := lim_le_length m hm
  have hra2 := hra.take _ hla2
  rw [lim_take l hl] at hra2
  have hrb2 := hrb.take _ hlb2
  rw [lim_take m hm] at hrb2
  have HRA : Hid (RowU w (.slice aa (lim (uval l)).length (lim (uval l)).length) (lim (uval l))) := hra2
  have HRB : Hid (RowU w (.slice ab (lim (uval m)).length (lim (uval m)).length) (lim (uval m))) := hrb2
  have k3 := natcmp_any _ _ _ _ (lim_limbs (uval l)) (lim_limbs (uval m)) (by omega) (by omega) w hra2 hrb2
  rw [uval_lim, uval_lim] at k3
  obtain ⟨i0, hi0, hz0, hz1, hz2⟩ := info_parts infoU64
  have hcn := cmpN_nonneg hge
  have hcb' := (cmpN_bound (uval l) (uval m)).2
  obtain ⟨cv, hcv⟩ : ∃ c, c = cmpN (uval l) (uval m) := ⟨_, rfl⟩
  rw [← hcv] at k3 hcn hcb'
  have K3 : Hid (Calls _ _ _ _ _) := k3
  have hmp : 0 < (lim (uval m)).length := Nat.pos_of_ne_zero fun h => by rw [lim_nil.1 h] at h0; exact absurd h0 (Nat.lt_irrefl 0)
  obtain ⟨n, hn⟩ : ∃ n, (lim (uval m)).length = n + 1 := ⟨_, (Nat.succ_pred_eq_of_pos hmp).symm⟩
  have hml := lim_length_mono hge
  -- the shift, and the divisor shifted
  obtain ⟨t, ht⟩ : ∃ t, t = (lim (uval m)).getD n 0 := ⟨_, rfl⟩
  obtain ⟨k, hk⟩ : ∃ k, k = 64 - blen t := ⟨_, rfl⟩
  obtain ⟨nl1, nl2, nl3⟩ := norm_len (k := k) hn (by rw [← ht]; exact hk)
  have htl : t ≤ 18446744073709551615 := by have := limbs_getD (lim_limbs (uval m)) n; omega
  have k5 := fun w' => lz64_any t htl w'
  rw [← hk] at k5
  have k6 := fun w' hbw => natup_any (.slice aa (lim (uval l)).length (lim (uval l)).length) (lim (uval l)) (lim_limbs _) (by omega) k (by omega) w' (RowU.below hra2 hbw)
  have k7 := fun w' hbw => natup_any (.slice ab (lim (uval m)).length (lim (uval m)).length) (lim (uval m)) (lim_limbs _) (by omega) k (by omega) w' (RowU.below hrb2 hbw)
  have hk64 : k / 64 = 0 := by omega
  simp only [hk64, Nat.zero_add, uval_lim] at k6 k7
  obtain ⟨LA, hLA⟩ : ∃ x, x = (lim (uval l)).length := ⟨_, rfl⟩
  obtain ⟨LB, hLB⟩ : ∃ x, x = (lim (uval m)).length := ⟨_, rfl⟩
  have hLAb : LA ≤ 16777216 := by omega
  have hLBn : LB = n + 1 := by omega
  have hLL : LB ≤ LA := by omega
  rw [← hLA] at K1 K3 k6
  rw [← hLB] at K2 K3 k7
  have HRB2 : Hid (RowU w (.slice ab LB LB) (lim (uval m))) := by rw [hLB]; exact hrb2
  have K5 : Hid (∀ w', Calls _ _ _ _ _) := k5
  have K6 : Hid (∀ w', Below w.heap.size w w' → Calls _ _ _ _ _) := k6
  have K7 : Hid (∀ w', Below w.heap.size w w' → Calls _ _ _ _ _) := k7
  have HT : Hid (t = (lim (uval m)).getD n 0) := ht
  have HLA : Hid (LA = (lim (uval l)).length) := hLA
  have HLB : Hid (LB = (lim (uval m)).length) := hLB
  have HNL : Hid ((lim (uval m * 2 ^ k)).length = n + 1 ∧ k ≤ 63 ∧ 18446744073709551616 ^ n ≤ uval m) := ⟨nl1, nl2, nl3⟩
  have HPOS : Hid (0 < uval m) := h0
  have hb0 : ((LB : Int) == 0) = false := by simp; omega
  have e1 : (LB : Int) - 1 = (n : Int) := by omega
  have hnLB : n < LB := by omega
  have hLBb : LB ≤ 16777216 := by omega
  have HLBN : Hid (LB = n + 1) := hLBn
  clear hLBn
  clear k1 k2 k3 k5 k6 k7 hra hrb hra2 hrb2 hge hLA hLB HRA HRB hla2 hlb2 hl hm ht hk nl1 nl2 nl3 hml hmp hn h0 hk64 hcv
  refine (callsIn_wide (n := 8)).1 ?_
  refine callsIn_of_wp_marks Tryd.func10 rfl trivial ?_ rfl
  simp only [Tryd.ntmps10, List.size_toArray, List.length_cons, List.length_nil, Nat.reduceAdd, Nat.reduceSub, Array.replicate_succ, Array.replicate_zero, List.push_toArray, List.append_toArray, List.nil_append, List.cons_append]
  refine wpIn_wide.2 ?_
  go_wp2_with (first
    | (go_at_call_of 18 aa; refine K1.out.mono ?_; rintro e w' ⟨rfl, hw⟩; rw [hw]; clear hw w')
    | (go_at_call_of 18 ab; refine K2.out.mono ?_; rintro e w' ⟨rfl, hw⟩; rw [hw]; clear hw w')
    | (go_at_call 24; refine K3.out.mono ?_; rintro e w1 ⟨rfl, hb1⟩
       obtain ⟨bb, ob, cb', heb, _, _, hbl, hcs⟩ := HRB2.out.some' (HLB.out.symm.trans HLBN.out) (by omega)
       injection heb with q1 q2 q3
       have hcell := (hb1.cell (p := ⟨bb, ob + n, none⟩) hbl).trans (hcs n (by omega))
       rw [← HT.out] at hcell
       subst q1
       clear hcs q2 q3)
    | (go_at_call 27; refine (K5.out _).mono ?_; rintro e w' ⟨rfl, hw⟩; rw [hw]; clear hw w')
    | (go_at_call_of 28 aa; refine (K6.out _ hb1).mono ?_; rintro e w2 ⟨R, rfl, r1, r2, r3, r4, r5⟩
       have HR : Hid (R.length = LA + 1 ∧ Limbs R ∧ uval R = uval l * 2 ^ k) := ⟨r1, r2, r3⟩
       have HRB : Hid (Blk w2 w1.heap.size R) := r4
       have HB2 : Hid (Below w1.heap.size w1 w2) := r5
       clear r1 r2 r3 r4 r5)
    | (go_at_call_of 28 bb; refine (K7.out _ (hb1.trans (HB2.out.mono hb1.size))).mono ?_; rintro e w3 ⟨D, rfl, r1, r2, r3, r4, r5⟩
       have kd : Calls Tryd.prog 18 #[.slice (some ⟨w2.heap.size, 0, none⟩) (LB + 1) (LB + 1)] w3 fun e w' => e = .returned (.slice (some ⟨w2.heap.size, 0, none⟩) LB LB) ∧ w' = w3 := (by
         have kc := natcut_raw (.slice (some ⟨w2.heap.size, 0, none⟩) (LB + 1) (LB + 1)) D r2 w3 (by have := Blk.row (P := []) (A := D) (R := []) (by simpa using r4) (LB + 1) (by omega) (by omega); rw [r1] at this; exact this)
         rw [r3, HNL.out.1, ← HLBN.out] at kc
         exact kc.mono fun e w' ⟨⟨a5, c5, he, h5⟩, hw⟩ => ⟨by injection he with q1 q2 q3; rw [q1]; exact h5, hw⟩)
       have hdb : Blk w3 w2.heap.size (lim (uval m * 2 ^ k) ++ List.replicate 1 0) := (by
         have := lim_cut D r2
         rw [r3, HNL.out.1, r1, HLBN.out, show n + 1 + 1 - (n + 1) = 1 by omega] at this
         rw [← this]; exact r4)
       have KD : Hid (Calls _ _ _ _ _) := kd
       have HDB : Hid (Blk w3 w2.heap.size (lim (uval m * 2 ^ k) ++ List.replicate 1 0)) := hdb
       have HB3 : Hid (Below w2.heap.size w2 w3) := r5
       clear r1 r2 r3 r4 r5 kd hdb)
    | (go_at_call 18; refine KD.out.mono ?_; rintro e w' ⟨rfl, hw⟩; rw [hw]; clear hw w')
    | (go_at_call 29; refine (bwd_make _ _ rfl _ _ _ rfl).mono ?_; rintro e w' ⟨rfl, hw⟩; rw [hw]; clear hw w')
    | (at_make; go_must (refine wpList_make_full _ rfl _ _ 23 rfl w3.heap.size 42 i0 (.int .u64 0) 1 Tryd.underlying23 hi0 hz0 hz1 .i64 .i64 _ _ (LA + 1 - LB) rfl rfl (by omega) (by omega) (by rw [hz2]; omega) (by unfold maxLen; omega) (by simp; omega) ?_); intro w4 hown hg))
  obtain ⟨N, hN⟩ : ∃ N, N = LA + 1 - LB := ⟨_, rfl⟩
  rw [made_u64] at hown
  simp only [World.size_alloc] at hown
  rw [← hN] at hown ⊢
  obtain ⟨LR, hLR⟩ : ∃ x, x = LA + 1 := ⟨_, rfl⟩
  obtain ⟨M, hM⟩ : ∃ M, M = lim (uval m * 2 ^ k) := ⟨_, rfl⟩
  have hr := HR.out
  rw [← hLR] at hr hg ⊢
  rw [← hM] at HDB HNL
  have hnl := HNL.out
  have hMl : M.length = n + 1 := hnl.1
  have hML : Limbs M := by rw [hM]; exact lim_limbs _
  have hMp : 0 < uval M := by
    rw [hM, uval_lim]; exact Nat.mul_pos HPOS.out (Nat.pow_pos (by decide))
  have hMt : 0 < M.getD n 0 := by
    have := (lim_tail M hML).2 (n + 1) (by rw [hM, uval_lim, ← hM]; exact hMl) (by omega)
    rw [Nat.add_sub_cancel] at this
    omega
  have hLBn := HLBN.out
  have hstart : DivAt (uval l * 2 ^ k) M N R (List.replicate N 0) := div_start (n := n) (b := uval m) (by rw [hr.1, hLR, HLA.out]) hr.2.1 hr.2.2 hM hMl hnl.2.2 (by rw [← HLA.out]; omega)
  have hqb := blk_own hown
  have hbel3 : Below w.heap.size w w3 := (hb1.trans (HB2.out.mono hb1.size)).trans (HB3.out.mono (by have := HB2.out.size; have := hb1.size; omega))
  have hs12 : w1.heap.size < w2.heap.size := HRB.out.lt
  have hs23 : w2.heap.size < w3.heap.size := HDB.out.lt
  have hs01 : w.heap.size ≤ w1.heap.size := hb1.size
  obtain ⟨X, hX⟩ : ∃ X, X = (w3.alloc (.cells #[.slice (some ⟨w1.heap.size, 0, none⟩) LR LR] 23)).alloc (.cells #[.slice (some ⟨w2.heap.size, 0, none⟩) LB LB] 23) := ⟨_, rfl⟩
  have hgX : X.grownBy w4 none := by rw [hX]; exact hg
  have hXs : X.heap.size = w3.heap.size + 2 := by rw [hX]; simp
  have x8 : Boxed w4 w3.heap.size 23 (.slice (some ⟨w1.heap.size, 0, none⟩) LR LR) := by
    have : Boxed X w3.heap.size 23 (.slice (some ⟨w1.heap.size, 0, none⟩) LR LR) := by rw [hX]; exact (Boxed.new w3 _ _).alloc _
    exact this.kept hgX (by simp)
  have x9 : Boxed w4 (w3.heap.size + 1) 23 (.slice (some ⟨w2.heap.size, 0, none⟩) LB LB) := by
    have : Boxed X (w3.heap.size + 1) 23 (.slice (some ⟨w2.heap.size, 0, none⟩) LB LB) := by
      rw [hX]; have := Boxed.new (w3.alloc (.cells #[.slice (some ⟨w1.heap.size, 0, none⟩) LR LR] 23)) 23 (.slice (some ⟨w2.heap.size, 0, none⟩) LB LB)
      rw [World.size_alloc] at this; exact this
    exact this.kept hgX (by simp)
  have xr3 : Blk w3 w1.heap.size R := HRB.out.below HB3.out hs12
  have xr : Blk w4 w1.heap.size R := by
    have : Blk X w1.heap.size R := by rw [hX]; exact (xr3.kept (World.grownBy_alloc _ _ none) (by simp)).kept (World.grownBy_alloc _ _ none) (by simp)
    exact this.kept hgX (by simp)
  have xd : Blk w4 w2.heap.size (M ++ List.replicate 1 0) := by
    have : Blk X w2.heap.size (M ++ List.replicate 1 0) := by rw [hX]; exact (HDB.out.kept (World.grownBy_alloc _ _ none) (by simp)).kept (World.grownBy_alloc _ _ none) (by simp)
    exact this.kept hgX (by simp)
  have xb : Below w.heap.size w w4 := by
    have : Below w.heap.size w X := by rw [hX]; exact (hbel3.alloc (by omega) _).alloc (by simp; omega) _
    exact this.trans ((Below.refl _ X).grown hgX (by omega) (fun j hj => by cases hj))
  have hs4 : w3.heap.size + 2 < w4.heap.size := by have := hqb.1.lt; omega
  obtain ⟨W0, hW0⟩ : ∃ W0, W0 = ((w4.alloc (.cells #[.slice (some ⟨w3.heap.size + 1 + 1, 0, none⟩) N N] 23)).alloc (.cells #[.slice (some ⟨w3.heap.size + 1 + 1, 0, none⟩) N N] 23)) := ⟨_, rfl⟩
  rw [← hW0]
  have hsz : W0.heap.size = w4.heap.size + 2 := by rw [hW0]; simp
  have b8 : Boxed W0 w3.heap.size 23 (.slice (some ⟨w1.heap.size, 0, none⟩) LR LR) := by rw [hW0]; exact (x8.alloc _).alloc _
  have b9 : Boxed W0 (w3.heap.size + 1) 23 (.slice (some ⟨w2.heap.size, 0, none⟩) LB LB) := by rw [hW0]; exact (x9.alloc _).alloc _
  have b10 : Boxed W0 w4.heap.size 23 (.slice (some ⟨w3.heap.size + 1 + 1, 0, none⟩) N N) := by rw [hW0]; exact (Boxed.new w4 _ _).alloc _
  have bB : Boxed W0 (w4.heap.size + 1) 23 (.slice (some ⟨w3.heap.size + 1 + 1, 0, none⟩) N N) := by
    rw [hW0]; have := Boxed.new (w4.alloc (.cells #[.slice (some ⟨w3.heap.size + 1 + 1, 0, none⟩) N N] 23)) 23 (.slice (some ⟨w3.heap.size + 1 + 1, 0, none⟩) N N)
    rw [World.size_alloc] at this; exact this
  have yr : Blk W0 w1.heap.size R := by rw [hW0]; exact (xr.kept (World.grownBy_alloc _ _ none) (by simp)).kept (World.grownBy_alloc _ _ none) (by simp)
  have yd : Blk W0 w2.heap.size (M ++ List.replicate 1 0) := by rw [hW0]; exact (xd.kept (World.grownBy_alloc _ _ none) (by simp)).kept (World.grownBy_alloc _ _ none) (by simp)
  have yq : Blk W0 (w3.heap.size + 1 + 1) (List.replicate N 0) := by
    rw [hW0]; exact (hqb.1.kept (World.grownBy_alloc _ _ none) (by simp)).kept (World.grownBy_alloc _ _ none) (by simp)
  have yb : Below w.heap.size w W0 := by rw [hW0]; exact (xb.alloc (by omega) _).alloc (by simp; omega) _
  have HST0 : Hid (DivAt (uval l * 2 ^ k) M N R (List.replicate N 0)) := hstart
  have YR : Hid (Blk W0 w1.heap.size R) := yr
  have YD : Hid (Blk W0 w2.heap.size (M ++ List.replicate 1 0)) := yd
  have YQ : Hid (Blk W0 (w3.heap.size + 1 + 1) (List.replicate N 0)) := yq
  have YB : Hid (Below w.heap.size w W0) := yb
  have B8 : Hid (Boxed W0 w3.heap.size 23 (.slice (some ⟨w1.heap.size, 0, none⟩) LR LR)) := b8
  have B9 : Hid (Boxed W0 (w3.heap.size + 1) 23 (.slice (some ⟨w2.heap.size, 0, none⟩) LB LB)) := b9
  have B10 : Hid (Boxed W0 w4.heap.size 23 (.slice (some ⟨w3.heap.size + 1 + 1, 0, none⟩) N N)) := b10
  have BB : Hid (Boxed W0 (w4.heap.size + 1) 23 (.slice (some ⟨w3.heap.size + 1 + 1, 0, none⟩) N N)) := bB
  have HMM : Hid (M = lim (uval m * 2 ^ k) ∧ M.length = n + 1 ∧ Limbs M ∧ 0 < uval M ∧ 0 < M.getD n 0) := ⟨hM, hMl, hML, hMp, hMt⟩
  have HLR : Hid (LR = LA + 1 ∧ N = LA + 1 - LB ∧ LB = n + 1) := ⟨hLR, hN, hLBn⟩
  have hNb : N ≤ 16777217 := by omega
  have HSZ : Hid (W0.heap.size = w4.heap.size + 2) := hsz
  have HORD : Hid (w.heap.size ≤ w1.heap.size ∧ w1.heap.size < w2.heap.size ∧ w2.heap.size < w3.heap.size ∧ w3.heap.size + 2 < w4.heap.size) := ⟨hs01, hs12, hs23, hs4⟩
  clear hW0 hX hgX hXs x8 x9 xr3 xr xd xb b8 b9 b10 bB yr yd yq yb hstart hqb hown hg hbel3 hr hnl hM hMl hML hMp hMt HRB HB2 HDB HB3 HR hcell hLR hN hLBn K1 K2 K3 K5 K6 K7 KD hsz hs01 hs12 hs23 hs4 HRB2 e1 hnLB hb0 hi0 hz0 hz1 hz2 i0
  refine (wpIn_wide (n := 8)).1 ?_
  refine wpIn_bwd (w4.heap.size + 1) N N (some ⟨w3.heap.size + 1 + 1, 0, none⟩) (fun _ => 0) rfl (by omega) (by omega) (Nat.le_refl _) rfl
    (fun k0 W => ∃ (R Q : List Nat), k0 ≤ N ∧ DivAt (uval l * 2 ^ k) M (N - k0) R Q ∧ Q.length = N ∧ Blk W w1.heap.size R ∧ Blk W (w3.heap.size + 1 + 1) Q ∧ Blk W w2.heap.size (M ++ List.replicate 1 0) ∧
      Boxed W w3.heap.size 23 (.slice (some ⟨w1.heap.size, 0, none⟩) LR LR) ∧ Boxed W (w3.heap.size + 1) 23 (.slice (some ⟨w2.heap.size, 0, none⟩) LB LB) ∧
      Boxed W w4.heap.size 23 (.slice (some ⟨w3.heap.size + 1 + 1, 0, none⟩) N N) ∧ Boxed W (w4.heap.size + 1) 23 (.slice (some ⟨w3.heap.size + 1 + 1, 0, none⟩) N N) ∧ Below w.heap.size w W)
    (fun _ => False) ?own (fun _ _ _ _ h _ _ => h) ?start ?box ?cell
    (fun k0 => { tmps := #[Value.slice aa LA LA, Value.slice (some { block := bb, off := ob }) LB LB, undef, undef, Value.slice none 0 0, Value.slice none 0 0, Value.nilIface, Value.int IntKind.i64 ↑k, Value.pointer (some { block := w3.heap.size, off := 0 }), Value.pointer (some { block := w3.heap.size + 1, off := 0 }), Value.pointer (some { block := w4.heap.size, off := 0 }), Value.int .i64 (N - 1 - k0 : Nat), undef, undef, Value.slice aa l.length ca, Value.slice aa LA LA, Value.slice (some { block := bb, off := ob }) m.length cb, Value.slice (some { block := bb, off := ob }) LB LB, Value.slice (some { block := bb, off := ob }) LB LB, Value.int IntKind.i64 ↑LB, Value.bool false, undef, Value.slice aa LA LA, Value.slice (some { block := bb, off := ob }) LB LB, Value.int IntKind.i64 cv, Value.bool (decide (cv < 0)), undef, undef, undef, Value.slice (some { block := bb, off := ob }) LB LB, Value.slice (some { block := bb, off := ob }) LB LB, Value.int IntKind.i64 ↑LB, Value.int IntKind.i64 ↑n, Value.pointer (some { block := bb, off := ob + n }), Value.int IntKind.u64 ↑t, Value.int IntKind.i64 ↑k, Value.slice aa LA LA, Value.int IntKind.i64 ↑k, Value.slice (some { block := w1.heap.size, off := 0 }) LR LR, Value.slice (some { block := bb, off := ob }) LB LB, Value.int IntKind.i64 ↑k, Value.slice (some { block := w2.heap.size, off := 0 }) (LB + 1) (LB + 1), Value.slice (some { block := w2.heap.size, off := 0 }) LB LB, Value.slice (some { block := w1.heap.size, off := 0 }) LR LR, Value.int IntKind.i64 (↑LA + 1), Value.slice (some { block := w2.heap.size, off := 0 }) LB LB, Value.int IntKind.i64 ↑LB, Value.int IntKind.i64 (↑LA + 1 - ↑LB), Value.slice (some { block := w3.heap.size + 1 + 1, off := 0 }) N N, Value.slice (some { block := w3.heap.size + 1 + 1, off := 0 }) N N, Value.func (Fn.func 44) #[] #[Value.pointer (some { block := w4.heap.size + 1, off := 0 })], Value.int .i64 (N - 1 - k0 : Nat), Value.int .u64 ((0 : Nat) : Int), undef, undef, undef, undef, undef, undef, undef, undef, undef, undef, undef, undef, undef, undef, undef, undef, undef, undef, undef, undef, undef, undef], defers := [] }) ?assign ?body ?done (fun _ h => h.elim)
  case own =>
    rintro k0 X Y row ⟨R, Q, hk, hst, hql, hr, hq, hd, h8, h9, h10, hB, hgr⟩ hgw hrow
    have hnc : ∀ (b : Nat) (cs : Array Value) (t : TypeId) (fz : Nat × Nat), X.heap[b]? = some (.cells cs t fz) → row ≠ some b := fun b cs t fz hb e => by
      obtain ⟨_, o, ho, hc⟩ := hrow b e
      rw [hb] at ho; cases ho; cases hc
    have hnb : ∀ (b : Nat) (L : List Nat), Blk X b L → row ≠ some b := fun b L ⟨tl, hb⟩ => hnc _ _ _ _ hb
    exact ⟨R, Q, hk, hst, hql, hr.kept hgw (hnb _ _ hr), hq.kept hgw (hnb _ _ hq), hd.kept hgw (hnb _ _ hd), h8.kept hgw (fun e => hnc _ _ _ _ h8 e.symm), h9.kept hgw (fun e => hnc _ _ _ _ h9 e.symm), h10.kept hgw (fun e => hnc _ _ _ _ h10 e.symm), hB.kept hgw (fun e => hnc _ _ _ _ hB e.symm),
      hgr.trans ((Below.refl _ X).grown hgw hgr.size (fun j hj => by have := (hrow j hj).1; have := YB.out.size; omega))⟩
  case start => exact ⟨R, List.replicate N 0, Nat.zero_le _, HST0.out, by simp, YR.out, YQ.out, YD.out, B8.out, B9.out, B10.out, BB.out, YB.out⟩
  case box => rintro k0 W ⟨R, Q, hk, hst, hql, hr, hq, hd, h8, h9, h10, hB, hgr⟩; exact hB.cell
  case cell =>
    rintro k0 W ⟨R, Q, hk, hst, hql, hr, hq, hd, h8, h9, h10, hB, hgr⟩ hlt
    refine ⟨_, 0, rfl, ?_⟩
    rw [Nat.zero_add, hq.cell _ (by omega), hst.low _ (by omega)]
  case assign =>
    intro l k0 W K hK
    gi_wp2
    exact hK
  case body =>
    rintro l' k0 W ⟨R, Q, hk, hst, hql, hr, hq, hd, h8, h9, h10, hB, hgr⟩ hlt
    obtain ⟨i, hi⟩ : ∃ i, i = N - 1 - k0 := ⟨_, rfl⟩
    rw [← hi]
    rw [show N - k0 = i + 1 by omega] at hst
    have hiN : i < N := by omega
    obtain ⟨m1, m2, m3, m4, m5⟩ := HMM.out
    obtain ⟨e1, e2, e3, e4, e5⟩ := hst.parts m3
    have hRl : R.length = LR := by rw [hst.len, hql, m2]; have := HLR.out; omega
    have hord := HORD.out
    have hlr := HLR.out
    rw [m2] at e1 e2 e3 e4 e5
    have hAl : Limbs ((R.drop i).take (n + 1 + 1)) := fun d hd' => hst.rl d (List.mem_of_mem_drop (List.mem_of_mem_take hd'))
    have hPl : (R.take i).length = i := by rw [List.length_take]; omega
    have hdrow : RowU W (.slice (some ⟨w2.heap.size, 0, none⟩) LB LB) M := by
      have := Blk.row (P := []) (A := M) (R := List.replicate 1 0) (by simpa using hd) LB (by omega) (by omega)
      rw [m2, ← hlr.2.2] at this; exact this
    have kq := natquot_any w1.heap.size (LR - i) n (R.take i) ((R.drop i).take (n + 1 + 1)) (R.drop (i + (n + 1 + 1))) M (.slice (some ⟨w2.heap.size, 0, none⟩) LB LB) hAl m3 e2 m2 (by omega) m5 e5 (by omega) (by omega) (by omega) W.drew (by rw [← e1]; exact hr) (hdrow.below (Below.refl _ W).drew) (by simp [Value.ownBlock]; omega)
    rw [hPl] at kq
    obtain ⟨H, hH⟩ : ∃ H, H = i + LB + 1 := ⟨_, rfl⟩
    obtain ⟨S1, hS1⟩ : ∃ S, S = i + LB := ⟨_, rfl⟩
    have hsl : ∀ w', (Instr.slice 23 (.slice (some ⟨w1.heap.size, 0, none⟩) LR LR) (some (.int .i64 (i : Nat))) (some (.int .i64 (H : Nat))) none).run Tryd.prog w' = .ok (.slice (some ⟨w1.heap.size, i, none⟩) (n + 2) (LR - i)) w' := fun w' => by
      rw [run_slice_lh (P := Tryd.prog) w' 23 (some ⟨w1.heap.size, 0, none⟩) LR LR (by kernel_rfl) .i64 .i64 (i : Int) (H : Int) (by omega) (by omega) (by omega)]
      have hsz : (sizeOf (Tryd.prog.elem 23)).run Tryd.prog w' = .ok 1 w' := by
        simp [sizeOf, go_sem]
        rfl
      rw [hsz]
      simp only [Result.andThen, sliced, Int.toNat_natCast]
      rw [if_neg (by omega), show H - i = n + 2 by omega]
      simp only [Option.map_some, Addr.add, Nat.mul_one, Nat.zero_add]
      by_cases h0 : i = 0
      · subst h0; simp
      · simp [h0]
    have w1' : IntKind.i64.wrap ((i : Int) + (LB : Int)) = (S1 : Int) := by rw [wrapI (by omega)]; omega
    have w2' : (i : Int) + (LB : Int) = (S1 : Int) := by omega
    have w3' : IntKind.i64.wrap (S1 : Int) = (S1 : Int) := wrapI (by omega)
    have w4' : IntKind.i64.wrap ((S1 : Int) + 1) = (H : Int) := by rw [wrapI (by omega)]; omega
    have w5' : (S1 : Int) + 1 = (H : Int) := by omega
    have w6' : IntKind.i64.wrap (H : Int) = (H : Int) := wrapI (by omega)
    obtain ⟨x, hx⟩ : ∃ x, x = uval ((R.drop i).take (n + 1 + 1)) := ⟨_, rfl⟩
    have hstep := hst.step (x := x) m3 m4 (by rw [m2]; exact hx)
    rw [← hx] at kq e5
    rw [m2] at hstep
    obtain ⟨y, hy⟩ : ∃ y, y = x / uval M := ⟨_, rfl⟩
    rw [← hy] at hstep kq
    have hyl : y ≤ 18446744073709551615 := by
      have := Nat.div_lt_of_lt_mul e5
      omega
    obtain ⟨R', hR'⟩ : ∃ R', R' = R.take i ++ fix (n + 1 + 1) (x % uval M) ++ R.drop (i + (n + 1 + 1)) := ⟨_, rfl⟩
    rw [← hR'] at hstep
    have kq2 : ∀ w', w' = W.drew → CallsIn (Fence.wide.inRound l') (8 - 1 - 1 - 1) Tryd.prog 30 #[.slice (some ⟨w1.heap.size, i, none⟩) (n + 2) (LR - i), .slice (some ⟨w2.heap.size, 0, none⟩) LB LB] w' fun e w'' => e = .returned (.int .u64 y) ∧ Blk w'' w1.heap.size R' ∧ W.drew.grownBy w'' (some w1.heap.size) := fun w' hw => by
      rw [hw]
      exact CallsIn.inRound l' (callsIn_wide.2 (kq.mono fun e w'' ⟨a1, a2, a3⟩ => ⟨a1, by rw [hR']; exact a2, a3⟩))
    have hqlt : i < Q.length := by omega
    have hcq := hq.cell i hqlt
    rw [hst.low i (by omega)] at hcq
    have hfq := hq.frozen i
    have HST : Hid (DivAt (uval l * 2 ^ k) M i R' (Q.set i y)) := hstep
    have KQ : Hid (∀ w', w' = W.drew → CallsIn _ _ _ _ _ _ _) := kq2
    have HST0' : Hid (Q.getD i 0 = 0) := hst.low i (Nat.lt_succ_self i)
    have HI : Hid (i = N - 1 - k0) := hi
    have HQ2 : Hid (Blk W (w3.heap.size + 1 + 1) Q) := hq
    have HD2 : Hid (Blk W w2.heap.size (M ++ List.replicate 1 0)) := hd
    have H8 : Hid (Boxed W w3.heap.size 23 (.slice (some ⟨w1.heap.size, 0, none⟩) LR LR)) := h8
    have H9 : Hid (Boxed W (w3.heap.size + 1) 23 (.slice (some ⟨w2.heap.size, 0, none⟩) LB LB)) := h9
    have H10 : Hid (Boxed W w4.heap.size 23 (.slice (some ⟨w3.heap.size + 1 + 1, 0, none⟩) N N)) := h10
    have HB : Hid (Boxed W (w4.heap.size + 1) 23 (.slice (some ⟨w3.heap.size + 1 + 1, 0, none⟩) N N)) := hB
    have HG : Hid (Below w.heap.size w W) := hgr
    have HQL : Hid (Q.length = N) := hql
    have c8 := h8.cell
    have c9 := h9.cell
    have c10 := h10.cell
    clear hi hx hy hR' hH hS1 kq kq2 hstep hst hr hq hd h8 h9 h10 hB hgr hdrow hAl hPl e1 e2 e3 e4 e5 m1 m2 m3 m4 m5 hord hlr hRl hql hqlt
    gi_wp2
    refine wpI_region (C := fun W' => W'.cell? ⟨w3.heap.size, 0, none⟩ = some (.slice (some ⟨w1.heap.size, 0, none⟩) LR LR) ∧ W'.cell? ⟨w3.heap.size + 1, 0, none⟩ = some (.slice (some ⟨w2.heap.size, 0, none⟩) LB LB) ∧ W'.cell? ⟨w4.heap.size, 0, none⟩ = some (.slice (some ⟨w3.heap.size + 1 + 1, 0, none⟩) N N)) (by kernel_rfl) ?_
    refine wpI_take (fun _ => trivial) (by kernel_rfl) 0 (v := ?_) rfl (by kernel_rfl) (fun _ _ _ h => h) (by kernel_rfl) ?_ ?_; rotate_left; · (intro wC hC; obtain ⟨hc8, hc9, hc10⟩ := hC; go_simp <;> with_reducible rfl)
    refine wpI_take (fun _ => trivial) (by kernel_rfl) 1 (v := ?_) rfl (by kernel_rfl) (fun _ _ _ h => h) (by kernel_rfl) ?_ ?_; rotate_left; · (intro wC hC; obtain ⟨hc8, hc9, hc10⟩ := hC; go_simp <;> with_reducible rfl)
    refine wpI_take (fun _ => trivial) (by kernel_rfl) 2 (v := ?_) rfl (by kernel_rfl) (fun _ _ _ h => h) (by kernel_rfl) ?_ ?_; rotate_left; · (intro wC hC; obtain ⟨hc8, hc9, hc10⟩ := hC; go_simp <;> with_reducible rfl)
    refine wpI_take (fun _ => trivial) (by kernel_rfl) 3 (v := ?_) rfl (by kernel_rfl) (fun _ _ _ h => h) (by kernel_rfl) ?_ ?_; rotate_left; · (intro wC hC; obtain ⟨hc8, hc9, hc10⟩ := hC; go_simp <;> with_reducible rfl)
    refine wpI_take (fun _ => trivial) (by kernel_rfl) 4 (v := ?_) rfl (by kernel_rfl) (fun _ _ _ h => h) (by kernel_rfl) ?_ ?_; rotate_left; · (intro wC hC; obtain ⟨hc8, hc9, hc10⟩ := hC; go_simp <;> with_reducible rfl)
    refine wpI_take (fun _ => trivial) (by kernel_rfl) 5 (v := ?_) rfl (by kernel_rfl) (fun _ _ _ h => h) (by kernel_rfl) ?_ ?_; rotate_left; · (intro wC hC; obtain ⟨hc8, hc9, hc10⟩ := hC; go_simp <;> with_reducible rfl)
    refine wpI_take (fun _ => trivial) (by kernel_rfl) 6 (v := ?_) rfl (by kernel_rfl) (fun _ _ _ h => h) (by kernel_rfl) ?_ ?_; rotate_left; · (intro wC hC; obtain ⟨hc8, hc9, hc10⟩ := hC; go_simp <;> with_reducible rfl)
    refine wpI_take (fun _ => trivial) (by kernel_rfl) 7 (v := ?_) rfl (by kernel_rfl) (fun _ _ _ h => h) (by kernel_rfl) ?_ ?_; rotate_left; · (intro wC hC; obtain ⟨hc8, hc9, hc10⟩ := hC; go_simp <;> with_reducible rfl)
    refine wpI_take (fun _ => trivial) (by kernel_rfl) 8 (v := ?_) rfl (by kernel_rfl) (fun _ _ _ h => h) (by kernel_rfl) ?_ ?_; rotate_left; · (intro wC hC; obtain ⟨hc8, hc9, hc10⟩ := hC; go_simp <;> with_reducible rfl)
    refine wpI_take (fun _ => trivial) (by kernel_rfl) 9 (v := ?_) rfl (by kernel_rfl) (fun _ _ _ h => h) (by kernel_rfl) ?_ ?_; rotate_left; · (intro wC hC; obtain ⟨hc8, hc9, hc10⟩ := hC; go_simp <;> with_reducible rfl)
    refine wpI_take (fun _ => trivial) (by kernel_rfl) 10 (v := ?_) rfl (by kernel_rfl) (fun _ _ _ h => h) (by kernel_rfl) ?_ ?_; rotate_left; · (intro wC hC; obtain ⟨hc8, hc9, hc10⟩ := hC; go_simp <;> with_reducible rfl)
    refine wpI_step 11 rfl (by kernel_rfl) (by kernel_rfl) ⟨c8, c9, c10⟩ (fun K hK => ?_)
    gi_wp2_with (refine ⟨trivial, ?_⟩; gi_at_call 30; refine (KQ.out _ rfl).mono ?_; rintro e w5 ⟨rfl, hb5, hg5⟩)
    try (refine hK _ _ ?_; clear hK K)
    have ho := HORD.out
    have t8 := (show Boxed W.drew _ _ _ from H8.out).kept hg5 (fun e => by have := Option.some.inj e; omega)
    have t9 := (show Boxed W.drew _ _ _ from H9.out).kept hg5 (fun e => by have := Option.some.inj e; omega)
    have t10 := (show Boxed W.drew _ _ _ from H10.out).kept hg5 (fun e => by have := Option.some.inj e; omega)
    have tB := (show Boxed W.drew _ _ _ from HB.out).kept hg5 (fun e => by have := Option.some.inj e; omega)
    have tq : Blk w5 (w3.heap.size + 1 + 1) Q := (show Blk W.drew _ _ from HQ2.out).kept hg5 (by simp; omega)
    have td : Blk w5 w2.heap.size (M ++ List.replicate 1 0) := (show Blk W.drew _ _ from HD2.out).kept hg5 (by simp; omega)
    have tb : Below w.heap.size w w5 := HG.out.drew.grown hg5 (by have := HG.out.size; show w.heap.size ≤ W.heap.size; omega) (fun j hj => by have := Option.some.inj hj; omega)
    have ts : W.heap.size ≤ w5.heap.size := hg5.size
    have hq5 : w5.cell? ⟨w3.heap.size + 1 + 1, i, none⟩ = some (.int .u64 0) := by
      have h1 := tq.cell i (by have := HQL.out; omega)
      rw [HST0'.out] at h1
      exact h1
    have hf5 := tq.frozen i
    have u8 := t8.cell
    have u9 := t9.cell
    have u10 := t10.cell
    have hqs := tq.set i y (by have := HQL.out; omega)
    have s8 := t8.kept (grown_set w5 (w3.heap.size + 1 + 1) i (.int .u64 y)) (fun e => by have := Option.some.inj e; omega)
    have s9 := t9.kept (grown_set w5 (w3.heap.size + 1 + 1) i (.int .u64 y)) (fun e => by have := Option.some.inj e; omega)
    have s10 := t10.kept (grown_set w5 (w3.heap.size + 1 + 1) i (.int .u64 y)) (fun e => by have := Option.some.inj e; omega)
    have sB := tB.kept (grown_set w5 (w3.heap.size + 1 + 1) i (.int .u64 y)) (fun e => by have := Option.some.inj e; omega)
    have sr := hb5.kept (grown_set w5 (w3.heap.size + 1 + 1) i (.int .u64 y)) (by simp; omega)
    have sd := td.kept (grown_set w5 (w3.heap.size + 1 + 1) i (.int .u64 y)) (by simp; omega)
    have sb : Below w.heap.size w (w5.setCell ⟨w3.heap.size + 1 + 1, i, none⟩ (.int .u64 y)) := tb.setCell (p := ⟨w3.heap.size + 1 + 1, i, none⟩) (by show w.heap.size ≤ w3.heap.size + 1 + 1; omega) _
    have hkf : KeepsFrom W0.heap.size W (w5.setCell ⟨w3.heap.size + 1 + 1, i, none⟩ (.int .u64 y)) := by
      refine KeepsFrom.trans (Y := w5) ⟨ts, fun b o hb ho2 hnc => ?_⟩ ((KeepsOthers.setCell w5 ⟨w3.heap.size + 1 + 1, i, none⟩ (.int .u64 y)).from _)
      have hlt : b < W.drew.heap.size := (Array.getElem?_eq_some_iff.1 ho2).1
      refine (hg5.block b hlt (fun e => ?_)).trans ho2
      have := Option.some.inj e
      have := HSZ.out
      omega
    have S8 : Hid _ := s8
    have S9 : Hid _ := s9
    have S10 : Hid _ := s10
    have SB : Hid _ := sB
    have SR : Hid _ := sr
    have SD : Hid _ := sd
    have SQ : Hid _ := hqs
    have SBL : Hid _ := sb
    have SKF : Hid _ := hkf
    clear s8 s9 s10 sB sr sd hqs sb hkf t8 t9 t10 tB tq td tb ts ho hg5 hb5 c8 c9 c10 hcq hfq
    refine wpI_take (fun _ => trivial) (by kernel_rfl) 12 (v := ?_) rfl (by kernel_rfl) (fun _ _ _ h => h) (by kernel_rfl) ?_ ?_; rotate_left; · (intro wC hC; obtain ⟨hc8, hc9, hc10⟩ := hC; go_simp <;> with_reducible rfl)
    refine wpI_step 13 rfl (by kernel_rfl) (by kernel_rfl) ⟨u8, u9, u10⟩ (fun K hK => ?_)
    gi_wp2
    try (refine hK _ _ ?_; clear hK K)
    refine wpI_done (by kernel_rfl) ⟨Boxed.cell S8.out, Boxed.cell S9.out, Boxed.cell S10.out⟩ ?_
    gi_wp2
    exact ⟨SKF.out, R', Q.set i y, by omega, by rw [show N - (k0 + 1) = i by have := HI.out; omega]; exact HST.out, by rw [List.length_set]; exact HQL.out, SR.out, SQ.out, SD.out, S8.out, S9.out, S10.out, SB.out, SBL.out⟩
  case done =>
    rintro W ⟨R, Q, hk, hst, hql, hr, hq, hd, h8, h9, h10, hB, hgr⟩ hD hDs
    rw [Nat.sub_self] at hst
    obtain ⟨d1, d2⟩ := hst.done
    obtain ⟨m1, m2, m3, m4, m5⟩ := HMM.out
    have hord := HORD.out
    have hlr := HLR.out
    have hRl : R.length = LR := by rw [hst.len, hql, m2]; omega
    have hqv : uval Q = uval l / uval m := by
      rw [d1, m1, uval_lim, Nat.mul_div_mul_right _ _ (Nat.pow_pos (by decide))]
    have hrv : uval R / 2 ^ k = uval l % uval m := by
      rw [d2, m1, uval_lim, Nat.mul_mod_mul_right, Nat.mul_div_cancel _ (Nat.pow_pos (by decide))]
    have hrr : RowU W (.slice (some ⟨w1.heap.size, 0, none⟩) LR LR) R := by
      have := Blk.row (P := []) (A := R) (R := []) (by simpa using hr) LR (by omega) (by omega)
      rw [hRl] at this; exact this
    have hk63 := HNL.out.2.1
    have kdn := natdown_any (.slice (some ⟨w1.heap.size, 0, none⟩) LR LR) R hst.rl (by omega) k (by omega) W hrr
    rw [hrv] at kdn
    have kct := fun w' (hbw : Below W.heap.size W w') => cut_own2 (w3.heap.size + 1 + 1) N w.heap.size Q hst.ql (by omega) (by omega) (by omega) w' (hq.below hbw hq.lt)
    rw [hql, hqv] at kct
    have KDN : Hid (Calls _ _ _ _ _) := kdn
    have KCT : Hid (∀ w', Below W.heap.size W w' → Calls _ _ _ _ _) := kct
    have c8 := h8.cell
    have c10 := h10.cell
    have HC10 : Hid (∀ w', Below W.heap.size W w' → w'.cell? ⟨w4.heap.size, 0, none⟩ = some (.slice (some ⟨w3.heap.size + 1 + 1, 0, none⟩) N N)) := fun w' hbw => (hbw.cell (p := ⟨w4.heap.size, 0, none⟩) h10.lt).trans c10
    have HDD : Hid (W.heap[W0.heap.size]? = some (.deferred (some []))) := hD
    have HDS : Hid (W0.heap.size < W.heap.size) := hDs
    have HG : Hid (Below w.heap.size w W) := hgr
    have HQL : Hid (w3.heap.size + 1 + 1 < W0.heap.size) := by have := HSZ.out; show _ < _; omega
    have HWS : Hid (w.heap.size ≤ W0.heap.size) := YB.out.size
    clear hst hr hq hd h8 h9 h10 hB hgr hD hDs d1 d2 m1 m2 m3 m4 m5 hord hlr hRl hqv hrv hrr kdn kct hql
    go_wp2_with (first
      | (go_at_call 31; refine KDN.out.mono ?_; rintro e w7 ⟨v7, rfl, hv7, hb7⟩; have c10' := HC10.out _ hb7)
      | (go_at_call 18; refine (KCT.out _ hb7).mono ?_; rintro e w' ⟨⟨v8, rfl, hv8, ho8⟩, hw⟩; rw [hw]; clear hw w'))
    have hD7 : w7.heap[W0.heap.size]? = some (.deferred (some [])) := (hb7.block _ HDS.out).trans HDD.out
    refine ⟨by simp, .inl ⟨_, _, rfl, run_takeDeferred hD7, ?_⟩⟩
    have hg8 := grownBy_putObj' w7 W0.heap.size (.deferred none)
    refine ⟨.tuple #[v8, v7, .nilIface], by simp [results, Tryd.results10, go_sem], v8, v7, rfl, ?_, ?_⟩
    · refine ⟨W.heap.size, HG.out.size, ?_, ?_, ?_⟩
      · exact hv8.put hD7
      · intro g hg
        rw [ho8] at hg
        have := Option.some.inj hg
        have := HQL.out
        have := HDS.out
        omega
      · exact hv7.put hD7
    · exact (HG.out.trans (hb7.mono HG.out.size)).grown hg8 (by have := HG.out.size; have := hb7.size; omega) (fun j hj => by have := Option.some.inj hj; have := HWS.out; omega)
end Go.Proofs.YtckmmdmimlhmoaaDoor
