import Derived.Test.YtcdmmblnfdenfaaDoorNatL
import Derived.Test.YtcdmmblnfdenfaaDoorNatsIn
import Derived.Test.YtcdmmblnfdenfaaDoorNumsF
namespace Go.Proofs.YtcdmmblnfdenfaaDoor
open Go.ChangeShapes Go.WideShapes Go.ChangeAt Go.RowKit
set_option linter.unusedVariables false

theorem prod_lt (L : List (List Nat)) (h : ∀ l ∈ L, ∀ x ∈ l, x < 18446744073709551616) : (L.map uval).prod ≤ 2 ^ (64 * (L.map List.length).sum) := by
  induction L with
  | nil => simp
  | cons l L ih =>
    have h1 := ih fun m hm => h m (List.mem_cons_of_mem _ hm)
    have h2 := uval_lt l (h l (List.mem_cons_self ..))
    simp only [List.map_cons, List.prod_cons, List.sum_cons, Nat.mul_add, Nat.pow_add]
    exact Nat.mul_le_mul (Nat.le_of_lt h2) h1
theorem sum_lt (L : List (List Nat)) (h : ∀ l ∈ L, ∀ x ∈ l, x < 18446744073709551616) : (L.map uval).sum < 2 ^ (64 * (L.map List.length).sum + L.length) := by
  induction L with
  | nil => simp
  | cons l L ih =>
    have h1 := ih fun m hm => h m (List.mem_cons_of_mem _ hm)
    have h2 := uval_lt l (h l (List.mem_cons_self ..))
    simp only [List.map_cons, List.sum_cons, List.length_cons]
    have e1 : 2 ^ (64 * (l.length + (L.map List.length).sum) + (L.length + 1)) = 2 ^ (64 * (l.length + (L.map List.length).sum) + L.length) * 2 := by rw [← Nat.add_assoc, Nat.pow_succ]
    have e2 : 2 ^ (64 * l.length) ≤ 2 ^ (64 * (l.length + (L.map List.length).sum) + L.length) := Nat.pow_le_pow_right (by decide) (by omega)
    have e3 : 2 ^ (64 * (L.map List.length).sum + L.length) ≤ 2 ^ (64 * (l.length + (L.map List.length).sum) + L.length) := Nat.pow_le_pow_right (by decide) (by omega)
    omega
theorem dlen_pow {n k : Nat} (h : n ≤ 2 ^ k) : dlen n ≤ k + 1 := by
  refine dlen_le_of_lt (Nat.lt_of_le_of_lt h ?_)
  have h1 : 2 ^ k ≤ 16777216 ^ k := Nat.pow_le_pow_left (by decide) k
  have h2 : 0 < 16777216 ^ k := Nat.pow_pos (by decide)
  rw [Nat.pow_succ]; omega
theorem take_one {L : List (List Nat)} {j : Nat} (h : j < L.length) : L.take (j + 1) = L.take j ++ [L.getD j []] := by
  rw [List.take_add_one, List.getElem?_eq_getElem h, List.getD_eq_getElem?_getD, List.getElem?_eq_getElem h]; rfl
theorem sum_takeW (L : List (List Nat)) (j : Nat) : ((L.take j).map List.length).sum ≤ (L.map List.length).sum := by
  have e : ((L.take j ++ L.drop j).map List.length).sum = ((L.take j).map List.length).sum + ((L.drop j).map List.length).sum := by rw [List.map_append, List.sum_append]
  rw [List.take_append_drop] at e
  omega
theorem mem_le_sum {l : List Nat} {x : Nat} (h : x ∈ l) : x ≤ l.sum := by
  induction l with
  | nil => cases h
  | cons a l ih =>
    rw [List.sum_cons]
    rcases List.mem_cons.1 h with g | g
    · omega
    · have := ih g; omega
set_option maxHeartbeats 1000000 in
theorem natAdds_walk (v0 : Value) (l0 : List (List Nat)) (w : World) (a0 : ∀ l ∈ l0, ∀ x ∈ l, x < 18446744073709551616) (r0 : RowUU w v0 l0) (b0 : l0.length + (l0.map List.length).sum ≤ 1048576) :
    Calls Tryd.prog 4 #[v0] w fun e w' => e = .returned (.bool true) ∧ Below w.heap.size w w' := by
  refine cps fun Q hQ => ?_
  have bnd : ∀ j, dlen ((l0.take j).map uval).sum ≤ 68157440 ∧ dlen ((l0.take j).map uval).prod ≤ 68157440 := fun j => by
    have h1 : ∀ l ∈ l0.take j, ∀ x ∈ l, x < 18446744073709551616 := fun l hl => a0 l (List.mem_of_mem_take hl)
    have h2 := dlen_pow (Nat.le_of_lt (sum_lt (l0.take j) h1))
    have h3 := dlen_pow (prod_lt (l0.take j) h1)
    have h4 := sum_takeW l0 j
    have h5 : (l0.take j).length ≤ l0.length := by rw [List.length_take]; omega
    omega
  have ball := bnd l0.length
  rw [List.take_length] at ball
  have k4 := fun v w h => natadd_any v l0 a0 (by omega) w h
  have k5 := fun v w h => natmul_any v l0 a0 (by omega) w h
  have k6 := fun va vb w h g => is_any va vb (lim (l0.map uval).sum) (l0.map uval).sum (by omega) true (by simp) w h g
  have k7 := fun va vb w h g => is_any va vb (lim (l0.map uval).prod) (l0.map uval).prod (by omega) true (by simp) w h g
  have HB : Hid _ := bnd
  have HR : Hid (RowUU w v0 l0) := r0
  have HA : Hid (∀ l ∈ l0, ∀ x ∈ l, x < 18446744073709551616) := a0
  have HL : Hid (l0.length + (l0.map List.length).sum ≤ 1048576) := b0
  obtain ⟨ao, c, rfl, hc, hlc, hcell⟩ := r0
  have HC : Hid _ := hcell
  have hl9 : l0.length ≤ 1048576 := by omega
  clear bnd ball a0 b0 hcell
  go_enter Tryd.func4, Tryd.ntmps4
  go_wp2_with (go_at_call 9; refine (shown_any _).mono ?_; rintro e w1 ⟨rfl, hb1⟩)
  have hr1 : Row (w1.alloc (.cells #[.int .i64 1] 3)) (.slice (some ⟨w1.heap.size, 0, none⟩) 1 1) (dig 1) := row_lit w1 3 1 (by decide) (by decide)
  obtain ⟨W, hW⟩ : ∃ W, W = w1.alloc (.cells #[.int .i64 1] 3) := ⟨_, rfl⟩
  have H1 : Below w.heap.size w W := by rw [hW]; exact bmore0 hb1 _
  rw [← hW] at hr1 ⊢
  clear hW
  go_loopw [4, 5, 6, 7] (fun sv pv iv _ wr => ∃ j : Nat, j ≤ l0.length ∧ iv = .int .i64 j ∧ Hid (Row wr sv (dig ((l0.take j).map uval).sum)) ∧ Hid (Row wr pv (dig ((l0.take j).map uval).prod)) ∧ Below W.heap.size W wr) (fun _ _ iv _ _ => l0.length - (intOf iv).toNat)
  case atStart => exact ⟨0, Nat.zero_le _, rfl, (by show Row _ _ (dig 0); rw [dig_zero]; exact row_nil _), (by show Row _ _ (dig 1); exact hr1), Below.refl _ _⟩
  case round =>
    obtain ⟨j, hj, rfl, hs, hp, hbel⟩ := hrel
    by_cases hlt : j < l0.length
    · rcases HC.out with h | ⟨b, off, rfl, hbl, hcl⟩
      · rw [h] at hlt; simp at hlt
      obtain ⟨u, hu, hru⟩ := hcl j hlt
      have B : Below w.heap.size w wr := bthen0 H1 hbel
      have hcw := (B.cell (p := ⟨b, off + j, none⟩) hbl).trans hu
      have hrw := hru.below B
      have hmem : ∀ x ∈ l0.getD j [], x < 18446744073709551616 := by
        rw [List.getD_eq_getElem?_getD, List.getElem?_eq_getElem hlt]
        exact HA.out _ (List.getElem_mem _)
      have hln : (l0.getD j []).length ≤ 1048576 := by
        have h1 : (l0.getD j []).length ≤ (l0.map List.length).sum := by
          rw [List.getD_eq_getElem?_getD, List.getElem?_eq_getElem hlt]
          exact mem_le_sum (List.mem_map.2 ⟨_, List.getElem_mem _, rfl⟩)
        have := HL.out
        omega
      have k1 := fun w h => meant_any u (l0.getD j []) hmem (by omega) w h
      have hb1' := HB.out (j + 1)
      have hb0 := HB.out j
      have es : ((l0.take (j + 1)).map uval).sum = ((l0.take j).map uval).sum + uval (l0.getD j []) := by rw [take_one hlt]; simp
      have ep : ((l0.take (j + 1)).map uval).prod = ((l0.take j).map uval).prod * uval (l0.getD j []) := by rw [take_one hlt]; simp
      have k2 := fun va vb w h g => nadd_any va vb ((l0.take j).map uval).sum (uval (l0.getD j [])) (by rw [← es]; omega) w h g
      have k3 := fun va vb w h g => nmul_any va vb ((l0.take j).map uval).prod (uval (l0.getD j [])) (by omega) (Nat.le_trans (dlen_uval _ hmem) (by omega)) w h g
      rw [← es] at k2
      rw [← ep] at k3
      have hs' := hs.out
      have hp' := hp.out
      obtain ⟨S1, hS1⟩ : ∃ x, x = ((l0.take (j + 1)).map uval).sum := ⟨_, rfl⟩
      obtain ⟨P1, hP1⟩ : ∃ x, x = ((l0.take (j + 1)).map uval).prod := ⟨_, rfl⟩
      rw [← hS1] at k2
      rw [← hP1] at k3
      have HSP : Hid (S1 = ((l0.take (j + 1)).map uval).sum ∧ P1 = ((l0.take (j + 1)).map uval).prod) := ⟨hS1, hP1⟩
      clear hS1 hP1 es ep hb1' hb0 hln hmem hs hp
      generalize ((l0.take j).map uval).sum = S0 at *
      generalize ((l0.take j).map uval).prod = P0 at *
      generalize l0.getD j [] = lj at *
      have hs : Hid (Row wr _ (dig S0)) := hs'
      have hp : Hid (Row wr _ (dig P0)) := hp'
      obtain ⟨xu, yu, rfl, -, -, -⟩ := hrw.out
      have HRW : Hid _ := hrw
      clear hru hu hrw hs' hp'
      go_wp2_with (first
        | (go_at_call 19; refine (k3 _ _ _ (((show Row _ _ _ from hp.out).below hb2).below hb3) (hr2.below hb3)).mono ?_; rintro e w4 ⟨v4, rfl, hr4, hb4⟩)
        | (go_at_call 18; refine (k2 _ _ _ ((show Row _ _ _ from hs.out).below hb2) hr2).mono ?_; rintro e w3 ⟨v3, rfl, hr3, hb3⟩)
        | (go_at_call 11; refine (k1 _ HRW.out).mono ?_; rintro e w2 ⟨v2, rfl, hr2, hb2⟩))
      go_roundw
      case measure => simp [intOf]; omega
      case rel => exact ⟨j + 1, hlt, by go_num, (by show Row _ _ _; rw [← HSP.out.1]; exact hr3.below hb4), (by show Row _ _ _; rw [← HSP.out.2]; exact hr4), bthen0 (bthen0 (bthen0 hbel hb2) hb3) hb4⟩
    · have e : j = l0.length := by omega
      subst e
      have hs' := hs.out
      have hp' := hp.out
      rw [List.take_length] at hs' hp'
      have HS : Hid (Row wr _ (dig (l0.map uval).sum)) := hs'
      have HP : Hid (Row wr _ (dig (l0.map uval).prod)) := hp'
      have HR2 : Hid (RowUU wr (.slice ao l0.length c) l0) := HR.out.below (bthen0 H1 hbel)
      clear hs hp hs' hp' HB HL HA HC
      generalize (l0.map uval).sum = SS at *
      generalize (l0.map uval).prod = PP at *
      generalize l0.length = n0 at *
      have r5 := HR2.out
      go_wp2_with (first
        | (have chk := hb4; go_at_call 12; refine (k7 _ _ _ ((hr3.below hb4)) (((HP.out.below hb2).below hb3).below hb4)).mono ?_; rintro e w5 ⟨rfl, hb5⟩)
        | (have chk := hb3; go_at_call 12; refine (k6 _ _ _ (hr2.below hb3) ((HS.out.below hb2).below hb3)).mono ?_; rintro e w4 ⟨rfl, hb4⟩)
        | (go_at_call 21; refine (k5 _ _ (r5.below hb2)).mono ?_; rintro e w3 ⟨v3, rfl, hr3, hb3⟩)
        | (go_at_call 20; refine (k4 _ _ r5).mono ?_; rintro e w2 ⟨v2, rfl, hr2, hb2⟩))
      refine hQ.out _ _ ⟨by first | rfl | simp, ?_⟩
      exact bthen0 (bthen0 (bthen0 (bthen0 (bthen0 H1 hbel) hb2) hb3) hb4) hb5
end Go.Proofs.YtcdmmblnfdenfaaDoor
