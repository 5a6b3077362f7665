import Derived.Test.YtcdmmblnfdenfaaDoorNumsC
namespace Go.Proofs.YtcdmmblnfdenfaaDoor
open Go.ChangeShapes Go.WideShapes Go.ChangeAt Go.RowKit
set_option linter.unusedVariables false
set_option maxRecDepth 100000

/-- what the lowest k digits are -/
def lo (a k : Nat) : Nat := val (low a k)
theorem lo_zero (a : Nat) : lo a 0 = 0 := rfl
theorem lo_succ (a k : Nat) : lo a (k + 1) = lo a k + 16777216 ^ k * (top a k % 16777216) := by
  unfold lo; rw [low_snoc, val_append, low_length]; simp [val]
theorem lo_all (a : Nat) : lo a (dlen a) = a := by unfold lo; rw [low_dlen, val_dig]
theorem val_set (l : List Nat) (j d : Nat) (h : j < l.length) : val (l.set j d) + 16777216 ^ j * l.getD j 0 = val l + 16777216 ^ j * d := by
  induction l generalizing j with
  | nil => simp at h
  | cons x l ih =>
    cases j with
    | zero => simp [val_cons]; omega
    | succ j =>
      have := ih j (by simpa using h)
      simp only [List.set_cons_succ, val_cons, List.getD_cons_succ, Nat.pow_succ]
      have e1 : 16777216 ^ j * 16777216 * l.getD j 0 = 16777216 * (16777216 ^ j * l.getD j 0) := by rw [Nat.mul_comm (16777216 ^ j) 16777216, Nat.mul_assoc]
      have e2 : 16777216 ^ j * 16777216 * d = 16777216 * (16777216 ^ j * d) := by rw [Nat.mul_comm (16777216 ^ j) 16777216, Nat.mul_assoc]
      rw [e1, e2]; omega
theorem val_zeros (n : Nat) : val (List.replicate n 0) = 0 := by
  induction n with
  | zero => rfl
  | succ n ih => rw [List.replicate_succ, val_cons, ih]
theorem getD_set (l : List Nat) (j d i : Nat) (h : j < l.length) : (l.set j d).getD i 0 = if j = i then d else l.getD i 0 := by
  rw [List.getD_eq_getElem?_getD, List.getElem?_set]
  by_cases e : j = i
  · subst e; simp [h]
  · simp [e]
theorem mul_step {V V' O c t P p R : Nat} (h1 : V + P * c = R) (h2 : V' + P * O = V + P * (t % 16777216)) (ht : t = O + p + c) : V' + P * 16777216 * (t / 16777216) = R + P * p := by
  have e1 : P * t = P * 16777216 * (t / 16777216) + P * (t % 16777216) := by
    conv => lhs; rw [← Nat.div_add_mod t 16777216]
    rw [Nat.mul_add, Nat.mul_assoc]
  have e2 : P * t = P * O + P * p + P * c := by rw [ht, Nat.mul_add, Nat.mul_add]
  omega
/-- the row of a product under way -/
structure MulAt (a b i k c : Nat) (O : List Nat) : Prop where
  len : O.length = dlen a + dlen b
  digs : ∀ d ∈ O, d < 16777216
  sum : val O + 16777216 ^ (i + k) * c = lo a i * b + 16777216 ^ i * ((top a i % 16777216) * lo b k)
  up : ∀ j, i + dlen b ≤ j → O.getD j 0 = 0
theorem MulAt.start (a b : Nat) : MulAt a b 0 0 0 (List.replicate (dlen a + dlen b) 0) :=
  ⟨by simp, by simp, by rw [val_zeros, lo_zero, lo_zero]; simp, fun j _ => by rw [List.getD_eq_getElem?_getD, List.getElem?_replicate]; split <;> rfl⟩
theorem MulAt.step {a b i k c x t : Nat} {O : List Nat} (h : MulAt a b i k c O) (hi : i < dlen a) (hk : k < dlen b) (hx : x = O.getD (i + k) 0) (ht : t = x + (top a i % 16777216) * (top b k % 16777216) + c) :
    MulAt a b i (k + 1) (t / 16777216) (O.set (i + k) (t % 16777216)) := by
  have hl := h.len
  refine ⟨by simp [hl], ?_, ?_, ?_⟩
  · intro d hd
    rcases List.mem_or_eq_of_mem_set hd with h1 | h1
    · exact h.digs d h1
    · omega
  · have h2 := val_set O (i + k) (t % 16777216) (by omega)
    rw [← hx] at h2
    have h3 := mul_step h.sum h2 ht
    rw [show i + (k + 1) = (i + k) + 1 by omega, Nat.pow_succ, h3, lo_succ, Nat.mul_add, Nat.mul_add, Nat.add_assoc, Nat.pow_add, Nat.mul_assoc, Nat.mul_left_comm (top a i % 16777216)]
  · intro j hj
    rw [getD_set _ _ _ _ (by omega), if_neg (by omega)]
    exact h.up j hj
theorem MulAt.next {a b i c : Nat} {O : List Nat} (h : MulAt a b i (dlen b) c O) (hi : i < dlen a) (hc : c < 16777216) : MulAt a b (i + 1) 0 0 (O.set (i + dlen b) c) := by
  have hl := h.len
  refine ⟨by simp [hl], ?_, ?_, ?_⟩
  · intro d hd
    rcases List.mem_or_eq_of_mem_set hd with h1 | h1
    · exact h.digs d h1
    · omega
  · have h2 := val_set O (i + dlen b) c (by omega)
    rw [h.up _ (Nat.le_refl _), Nat.mul_zero, Nat.add_zero, h.sum, lo_all] at h2
    rw [h2, lo_zero, lo_succ, Nat.mul_zero, Nat.mul_zero, Nat.mul_zero, Nat.add_zero, Nat.add_zero, Nat.add_mul, Nat.mul_assoc]
  · intro j hj
    rw [getD_set _ _ _ _ (by omega), if_neg (by omega)]
    exact h.up j (by omega)
theorem MulAt.done {a b : Nat} {O : List Nat} (h : MulAt a b (dlen a) 0 0 O) : ∃ z, O = dig (a * b) ++ List.replicate z 0 := by
  have hs := h.sum
  rw [lo_zero, lo_all, Nat.mul_zero, Nat.mul_zero, Nat.mul_zero, Nat.add_zero, Nat.add_zero] at hs
  have hv := val_low O h.digs
  have hlt := val_lt O h.digs
  rw [hs] at hv hlt
  exact ⟨_, by rw [← low_ge (dlen_le_of_lt hlt), hv]⟩

set_option maxHeartbeats 4000000 in
theorem nmul_any (va vb : Value) (a b : Nat) (hA : dlen a ≤ 1099511627776) (hB : dlen b ≤ 1099511627776) (w : World) (ha : Row w va (dig a)) (hb : Row w vb (dig b)) :
    Calls Tryd.prog 19 #[va, vb] w fun e w' => ∃ v, e = .returned v ∧ Row w' v (dig (a * b)) ∧ Below w.heap.size w w' := by
  refine cps fun Q hQ => ?_
  obtain ⟨aa, ca, rfl, h1, h2, hra⟩ := ha.reads
  obtain ⟨ab, cb, rfl, h3, h4, hrb⟩ := hb.reads
  obtain ⟨i0, hi, hz0, hz1, hz2⟩ := info_parts infoInt
  clear ha hb
  have za := @dlen_eq_zero a
  have zb := @dlen_eq_zero b
  by_cases h0 : dlen a = 0 ∨ dlen b = 0
  · have hn : a * b = 0 := by
      rcases h0 with h | h
      · rw [za.1 h, Nat.zero_mul]
      · rw [zb.1 h, Nat.mul_zero]
    have HQ : Hid _ := hQ.out _ w ⟨.slice none 0 0, rfl, by rw [hn, dig_zero]; exact row_nil w, Below.refl _ _⟩
    have h0' : dlen a = 0 ∨ (dlen a ≠ 0 ∧ dlen b = 0) := by omega
    clear za zb hra hrb hn h0
    rcases h0' with h | ⟨h, h'⟩
    · go_enter Tryd.func19, Tryd.ntmps19
      go_wp2
      exact HQ.out
    · go_enter Tryd.func19, Tryd.ntmps19
      go_wp2
      exact HQ.out
  · have hna : 0 < dlen a := by omega
    have hnb : 0 < dlen b := by omega
    obtain ⟨ba, oa, rfl, hba, hra⟩ := hra.resolve_left (by omega)
    obtain ⟨bb, ob, rfl, hbb, hrb⟩ := hrb.resolve_left (by omega)
    clear za zb h0
    have ea : ((dlen a : Int) == 0) = false := by simp; omega
    have eb : ((dlen b : Int) == 0) = false := by simp; omega
    go_enter Tryd.func19, Tryd.ntmps19
    go_wp2_with (at_make; go_must (refine wpList_make_full _ rfl _ _ 27 rfl w.heap.size 3 i0 (.int .i64 0) 1 Tryd.underlying27 hi hz0 hz1 .i64 .i64 _ _ (dlen a + dlen b) rfl rfl (by omega) (by omega) (by rw [hz2]; omega) (by unfold maxLen; omega) (Nat.le_refl _) ?_); intro w1 hown hg)
    rw [made_ints] at hown
    have hb0 := (Below.refl w.heap.size w).grown hg (Nat.le_refl _) (fun k hk => by cases hk)
    have hs0 : w.heap.size < w1.heap.size := by have := hown.lt w.heap.size rfl; omega
    clear hg hi hz0 hz1 hz2 ea eb
    go_loopw [6] (fun iv wr => ∃ (i : Nat) (O : List Nat), i ≤ dlen a ∧ iv = .int .i64 i ∧ MulAt a b i 0 0 O ∧ wr.ownsRow w.heap.size 3 1 (.slice (some ⟨w.heap.size, 0, none⟩) (dlen a + dlen b) (dlen a + dlen b)) (dlen a + dlen b) (O.map enc) ∧ Below w.heap.size w wr) (fun iv _ => dlen a - (intOf iv).toNat)
    case atStart => exact ⟨0, _, Nat.zero_le _, rfl, MulAt.start a b, hown, hb0⟩
    case round =>
      obtain ⟨i, O, hi, rfl, hP, hown, hbel⟩ := hrel
      by_cases hlt : i < dlen a
      · clear hb0
        go_wp2
        go_loopw [7, 8] (fun cv kv wr => ∃ (k c : Nat) (O : List Nat), k ≤ dlen b ∧ c ≤ 16777215 ∧ kv = .int .i64 k ∧ cv = .int .i64 c ∧ MulAt a b i k c O ∧ wr.ownsRow w.heap.size 3 1 (.slice (some ⟨w.heap.size, 0, none⟩) (dlen a + dlen b) (dlen a + dlen b)) (dlen a + dlen b) (O.map enc) ∧ Below w.heap.size w wr) (fun _ kv _ => dlen b - (intOf kv).toNat)
        case atStart => exact ⟨0, 0, O, Nat.zero_le _, by decide, rfl, rfl, hP, hown, hbel⟩
        case round =>
          rename_i wr0
          clear hown hbel hP
          obtain ⟨k, c, O, hk, hc, rfl, rfl, hP, hown, hbel⟩ := hrel
          by_cases hlk : k < dlen b
          · have c1 := (hbel.cell (p := ⟨ba, oa + i, none⟩) hba).trans (hra i hlt)
            have c2 := (hbel.cell (p := ⟨bb, ob + k, none⟩) hbb).trans (hrb k hlk)
            have hl := hP.len
            have c3 := hown.cellAt (i + k) (by omega)
            have c3' : wr.cell? ⟨w.heap.size, i + k, none⟩ = some (.int .i64 (O.getD (i + k) 0 : Nat)) := by
              rw [c3, List.getElem?_map, List.getD_eq_getElem?_getD, List.getElem?_eq_getElem (by omega)]; rfl
            have hf := hown.frozenAt (i + k)
            obtain ⟨x, hx⟩ : ∃ x, x = O.getD (i + k) 0 := ⟨_, rfl⟩
            have hx1 : x < 16777216 := by
              rw [hx, List.getD_eq_getElem?_getD, List.getElem?_eq_getElem (by omega)]
              exact hP.digs _ (List.getElem_mem _)
            obtain ⟨p, hp⟩ : ∃ p, p = (top a i % 16777216) * (top b k % 16777216) := ⟨_, rfl⟩
            have hp1 : p ≤ 16777215 * 16777215 := by rw [hp]; exact Nat.mul_le_mul (by omega) (by omega)
            obtain ⟨A, hA'⟩ : ∃ A, A = top a i % 16777216 := ⟨_, rfl⟩
            obtain ⟨C, hC'⟩ : ∃ C, C = top b k % 16777216 := ⟨_, rfl⟩
            rw [← hA'] at c1
            rw [← hC'] at c2
            rw [← hx] at c3'
            have hpi : (A : Int) * (C : Int) = (p : Int) := by rw [hp, hA', hC']; simp
            have hst : ∀ q, ((wr.drewN q).setCell ⟨w.heap.size, i + k, none⟩ (enc ((x + p + c) % 16777216))).ownsRow w.heap.size 3 1 (.slice (some ⟨w.heap.size, 0, none⟩) (dlen a + dlen b) (dlen a + dlen b)) (dlen a + dlen b) ((O.set (i + k) ((x + p + c) % 16777216)).map enc) := fun q => by
              rw [List.map_set]; exact ((owns_drewN hown q).stored (i + k) (enc ((x + p + c) % 16777216))).1
            have hP2 := hP.step (t := x + p + c) hlt hlk hx (by rw [hp])
            have Hst : Hid _ := hst
            have HP2 : Hid _ := hP2
            have hA2 : A ≤ 16777215 := by omega
            have hC2 : C ≤ 16777215 := by omega
            clear hst hP2 c3 hl hx hp hA' hC' hown hP hra hrb
            go_wp2
            go_quiet (fail)
            go_wp2
            go_roundw
            case rel =>
              refine ⟨k + 1, (x + p + c) / 16777216, _, by omega, by omega, by go_num, by go_num, HP2.out, ?_⟩
              have ev : ((x : Int) + p + c) % 16777216 = (((x + p + c) % 16777216 : Nat) : Int) := by omega
              rw [ev]
              exact ⟨Hst.out _, (below_drewN hbel _).setCell (Nat.le_refl _) _⟩
            case measure => simp [intOf]; omega
          · have e : k = dlen b := by omega
            subst e
            have hl := hP.len
            have c3 := hown.cellAt (i + dlen b) (by omega)
            have c3' : wr.cell? ⟨w.heap.size, i + dlen b, none⟩ = some (.int .i64 (O.getD (i + dlen b) 0 : Nat)) := by
              rw [c3, List.getElem?_map, List.getD_eq_getElem?_getD, List.getElem?_eq_getElem (by omega)]; rfl
            have hf := hown.frozenAt (i + dlen b)
            have hst := hown.stored (i + dlen b) (enc c)
            rw [← List.map_set] at hst
            have hP2 := hP.next hlt (by omega)
            have Hst : Hid _ := hst
            have HP2 : Hid _ := hP2
            generalize O.getD (i + dlen b) 0 = x at *
            clear hst hP2 c3 hl hown hP hra hrb
            go_wp2
            go_roundw
            case rel => exact ⟨i + 1, _, by omega, by go_num, HP2.out, Hst.out.1, hbel.setCell (Nat.le_refl _) _⟩
            case measure => simp [intOf]; omega
      · have e : i = dlen a := by omega
        subst e
        obtain ⟨z, hz⟩ := hP.done
        have hrw := row_own hown
        have HRW : Hid (Row wr _ _) := hrw
        clear hrw hown hb0 hra hrb
        go_wp2_with (go_at_call 42; refine (cut_any _ _ (a * b) z hz _ HRW.out).mono ?_; rintro e w' ⟨v', rfl, hv, hw⟩; rw [hw]; clear hw w')
        exact hQ.out _ _ ⟨_, rfl, hv, hbel⟩
end Go.Proofs.YtcdmmblnfdenfaaDoor
