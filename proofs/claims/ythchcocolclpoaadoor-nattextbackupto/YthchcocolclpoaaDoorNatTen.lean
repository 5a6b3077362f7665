import Derived.Test.YthchcocolclpoaaDoorNatTy
namespace Go.Proofs.YthchcocolclpoaaDoor
open Go.ChangeShapes Go.WideShapes Go.ChangeAt Go.RowKit
set_option linter.unusedVariables false
set_option linter.unusedSimpArgs false
set_option maxRecDepth 100000

/-! ### powers of ten -/
theorem natten_neg (k : Int) (hk : k < 0) (w : World) :
    Calls Tryd.prog 7 #[.int .i64 k] w fun e w' => e = .returned (.tuple #[.slice none 0 0, .iface 29 (.int .i64 1)]) ∧ Below w.heap.size w w' := by
  refine cps fun Q hQ => ?_
  go_enter Tryd.func7, Tryd.ntmps7
  go_wp2
  exact hQ.out _ _ ⟨rfl, Below.refl _ _⟩
theorem natten_long (k : Int) (hk : 16384 < k) (hk2 : k ≤ 9223372036854775807) (w : World) :
    Calls Tryd.prog 7 #[.int .i64 k] w fun e w' => e = .returned (.tuple #[.slice none 0 0, .iface 29 (.int .i64 3)]) ∧ Below w.heap.size w w' := by
  refine cps fun Q hQ => ?_
  go_enter Tryd.func7, Tryd.ntmps7
  go_wp2
  exact hQ.out _ _ ⟨rfl, Below.refl _ _⟩
def fac (k j : Nat) : Nat := 10 ^ min (k - 19 * j) 19
theorem pow19 {m : Nat} (h : m ≤ 19) : 10 ^ m < 18446744073709551616 :=
  Nat.lt_of_le_of_lt (Nat.pow_le_pow_right (by decide) h) (by decide)
theorem fac_lt (k j : Nat) : fac k j < 18446744073709551616 := pow19 (Nat.min_le_right _ _)
def facs (k i : Nat) : List (List Nat) := (List.range i).map fun j => lim (fac k j)
theorem facs_length (k i : Nat) : (facs k i).length = i := by simp [facs]
theorem facs_get (k i j : Nat) (h : j < i) : (facs k i).getD j [] = lim (fac k j) := by
  rw [facs, List.getD_eq_getElem?_getD, List.getElem?_map, List.getElem?_range h]; rfl
theorem facs_limbs (k i : Nat) : ∀ l ∈ facs k i, Limbs l := fun l h => by
  obtain ⟨j, _, rfl⟩ := List.mem_map.1 h
  exact lim_limbs _
theorem facs_prod (k i : Nat) : ((facs k i).map uval).prod = 10 ^ min k (19 * i) := by
  induction i with
  | zero => simp [facs]
  | succ i ih =>
    have e : facs k (i + 1) = facs k i ++ [lim (fac k i)] := by simp [facs, List.range_succ]
    rw [e, List.map_append, List.prod_append, ih]
    simp only [List.map_cons, List.map_nil, List.prod_cons, List.prod_nil, Nat.mul_one, uval_lim]
    rw [fac, ← Nat.pow_add]
    congr 1
    omega
theorem facs_sum (k i : Nat) : ((facs k i).map List.length).sum ≤ i := by
  induction i with
  | zero => simp [facs]
  | succ i ih =>
    have e : facs k (i + 1) = facs k i ++ [lim (fac k i)] := by simp [facs, List.range_succ]
    rw [e, List.map_append, List.sum_append]
    have := lim_length_le (x := fac k i) (n := 1) (by simpa using fac_lt k i)
    simp only [List.map_cons, List.map_nil, List.sum_cons, List.sum_nil]
    omega
/-- the factors so far, in a row of the call's own -/
def Facs (w : World) (base k i : Nat) (v : Value) : Prop :=
  ∃ xs : List Value, w.ownsRow base 24 1 v i xs ∧ ∀ j, j < i → ∃ u, xs[j]? = some u ∧ OwnU 0 w u (fac k j)
theorem OwnU.kept {B : Nat} {w w' : World} {v : Value} {x : Nat} {row : Option Nat} (h : OwnU B w v x) (hg : w.grownBy w' row) (hne : ∀ g L, row = some g → ¬ Blk w g L) : OwnU B w' v x := by
  obtain ⟨ao, rfl, hm, h⟩ := h
  refine ⟨ao, rfl, hm, ?_⟩
  rcases h with h | ⟨g, z, rfl, hb, hk⟩
  · exact .inl h
  · exact .inr ⟨g, z, rfl, hb, hk.kept hg fun e => hne g _ e hk⟩
theorem not_blk {w : World} {base n : Nat} {v : Value} {xs : List Value} (h : w.ownsRow base 24 1 v n xs) (g : Nat) (L : List Nat) (e : v.ownBlock = some g) : ¬ Blk w g L := by
  rintro ⟨tl, hk⟩
  rcases h.2 with ⟨rfl, _⟩ | ⟨g', cap, cur, rfl, hb, hg, _⟩
  · simp [Value.ownBlock] at e
  · simp [Value.ownBlock] at e
    subst e
    rw [hg] at hk
    simp at hk
theorem below_grown {w w' : World} (h : Below w.heap.size w w') : w.grownBy w' none := ⟨h.os, h.tape, h.output, h.size, fun k hk _ => h.block k hk⟩
theorem Facs.nil (w : World) (base k : Nat) : Facs w base k 0 (.slice none 0 0) := ⟨[], World.ownsRow_nil _ _ _ _, fun j hj => by omega⟩
theorem Facs.below {w w' : World} {base k i : Nat} {v : Value} (h : Facs w base k i v) (hb : Below w.heap.size w w') : Facs w' base k i v := by
  obtain ⟨xs, ho, hx⟩ := h
  refine ⟨xs, ho.kept (below_grown hb) ?_, fun j hj => ?_⟩
  · rcases e : v.ownBlock with _ | b
    · exact .inl rfl
    · exact .inr (by simp)
  · obtain ⟨u, h1, h2⟩ := hx j hj
    exact ⟨u, h1, h2.below (B' := 0) hb⟩
theorem Facs.rows {w : World} {base k i : Nat} {v : Value} (h : Facs w base k i v) : RowUU w v (facs k i) := by
  obtain ⟨xs, ho, hx⟩ := h
  have hl := facs_length k i
  rcases id ho.2 with ⟨rfl, rfl⟩ | ⟨g, cap, cur, rfl, hb, hg, hn, hcap, _⟩
  · exact ⟨none, 0, by rw [hl], by decide, by omega, .inl (List.eq_nil_of_length_eq_zero hl)⟩
  · refine ⟨_, cap, by rw [hl], by unfold maxLen at hcap; omega, by omega, .inr ⟨g, 0, rfl, (Array.getElem?_eq_some_iff.1 hg).1, fun j hj => ?_⟩⟩
    rw [hl] at hj
    obtain ⟨u, h1, h2⟩ := hx j hj
    rw [Nat.zero_add]
    refine ⟨u, (ho.cellAt j (by omega)).trans h1, ?_⟩
    rw [facs_get k i j hj]
    exact h2.row
theorem infoNat : (Tryd.prog.info? 24).map (fun i => (i.zero, i.size, i.bytes)) = some (some (.slice none 0 0), 1, 24) := by kernel_rfl
theorem OwnU.form {B : Nat} {w : World} {v : Value} {x : Nat} (h : OwnU B w v x) : ∃ ao n, v = .slice ao n n := by
  obtain ⟨ao, rfl, _⟩ := h; exact ⟨_, _, rfl⟩
theorem OwnU.one {B : Nat} {w : World} {v : Value} {x : Nat} (h : OwnU B w v x) : v.oneCell' = true := by
  obtain ⟨ao, rfl, _⟩ := h; rfl
set_option maxHeartbeats 4000000 in
theorem natten_any (k : Nat) (hk : k ≤ 16384) (w : World) :
    Calls Tryd.prog 7 #[.int .i64 k] w fun e w' => ∃ v, e = .returned (.tuple #[v, .nilIface]) ∧ RowU w' v (lim (10 ^ k)) ∧ Below w.heap.size w w' := by
  obtain ⟨i0, hi, hz0, hz1, hz2⟩ := info_parts infoNat
  refine cps fun Q hQ => ?_
  go_enter Tryd.func7, Tryd.ntmps7
  go_wp2
  go_loopw [0, 4] (fun kv fv wr => ∃ i : Nat, i ≤ 863 ∧ (i = 0 ∨ 19 * i < k + 19) ∧ kv = .int .i64 ((k : Int) - 19 * i) ∧ Hid (Facs wr w.heap.size k i fv) ∧ Hid (Below w.heap.size w wr)) (fun kv _ _ => (intOf kv).toNat)
  case atStart => exact ⟨0, by decide, .inl rfl, by simp, Facs.nil _ _ _, Below.refl _ _⟩
  case round =>
    obtain ⟨i, hi1, hi2, rfl, hf, hbel⟩ := hrel
    by_cases hlt : 19 * i < k
    · obtain ⟨y, hy⟩ : ∃ y, y = k - 19 * i := ⟨_, rfl⟩
      have hyk : (k : Int) - 19 * i = (y : Int) := by omega
      have hy0 : 0 < y := by omega
      have hyb : y ≤ 16384 := by omega
      obtain ⟨m, hm⟩ : ∃ m, m = min y 19 := ⟨_, rfl⟩
      have hm1 : (if (19 : Int) < (y : Int) then (19 : Int) else (y : Int)) = (m : Int) := by split <;> omega
      have hm19 : m ≤ 19 := by omega
      have HF2 : Hid (fac k i = 10 ^ m) := by show _ = _; rw [fac, ← hy, hm]
      have HI : Hid (i + 1 ≤ 863 ∧ 19 * (i + 1) < k + 19) := by show _ ∧ _; omega
      have hib : (i + 1) * 24 ≤ 140737488355328 := by omega
      have HY : Hid ((y : Int) - 19 = (k : Int) - 19 * ((i + 1 : Nat) : Int)) := by show _ = _; omega
      have kp := natpower_any m hm19
      have ko := natof_own (10 ^ m) (pow19 hm19)
      have HFF : Hid (fac k i = 10 ^ m) := HF2
      generalize 10 ^ m = P at *
      rw [hyk]
      have hbs := hbel.out.size
      clear hy hm hyk hi1 hi2 hlt HF2
      go_wp2_with (first
        | (go_at_call 26; refine (kp _).mono ?_; rintro e w1 ⟨rfl, hw⟩; rw [hw]; clear hw w1)
        | (go_at_call 25; refine (ko _).mono ?_; rintro e w2 ⟨v2, rfl, hv2, hb2⟩; obtain ⟨ao2, n2, hve⟩ := hv2.form; subst hve; obtain ⟨xs, hown2, hxs2⟩ := hf.out.below hb2; have HXS : Hid _ := hxs2; have HV2 : Hid (OwnU w.heap.size w2 _ P) := hv2.mono hbs; have HB2 : Hid _ := hb2; have HO2 : Hid (w2.ownsRow _ _ _ _ _ _) := hown2; clear hown2 hxs2 hv2; have hbs2 := Nat.le_trans hbs hb2.size; clear hb2)
        | (at_builtin; go_must (refine append1 rfl _ _ 53 rfl w.heap.size 24 i0 (.slice none 0 0) 24 Tryd.underlying53 hi hz0 hz1 hz2 rfl _ _ _ HO2.out rfl HV2.out.one rfl hib (by decide) hbs2 ?_); intro v' w3 hown3 hb3 hne3 hgr3; have HO3 : Hid (w3.ownsRow _ _ _ _ _ _) := hown3; have HB3 : Hid _ := hb3; have HG3 : Hid (w2.grownBy _ _) := hgr3; clear hown3 hb3 hgr3 hne3))
      go_roundw
      case rel =>
        refine ⟨i + 1, HI.out.1, .inr HI.out.2, congrArg (Value.int .i64) HY.out, ⟨xs ++ [_], HO3.out, fun j hj => ?_⟩, hbel.out.trans ((HB2.out.mono hbs).trans HB3.out)⟩
        have hxl : xs.length = i := by have := HO2.out.1; omega
        by_cases hji : j < i
        · obtain ⟨u, h1, h2⟩ := HXS.out j hji
          refine ⟨u, by rw [List.getElem?_append_left (by omega)]; exact h1, h2.kept HG3.out fun g L e => not_blk HO2.out g L e⟩
        · have hji2 : j = i := by omega
          subst hji2
          refine ⟨_, by rw [List.getElem?_append_right (by omega), hxl, Nat.sub_self]; rfl, ?_⟩
          rw [HFF.out]
          exact (HV2.out.mono (Nat.zero_le _)).kept HG3.out fun g L e => not_blk HO2.out g L e
      case measure => simp [intOf]; omega
    · obtain ⟨z, hz⟩ : ∃ z : Int, z = (k : Int) - 19 * i := ⟨_, rfl⟩
      rw [← hz]
      have hz0' : z ≤ 0 := by omega
      have hzl : -9223372036854775808 ≤ z := by omega
      have hr := hf.out.rows
      have hsum := facs_sum k i
      have hlen := facs_length k i
      have km := natmul_own u4 (facs k i) (facs_limbs k i) (by omega) wr hr
      rw [facs_prod, show min k (19 * i) = k by omega] at km
      have KM : Hid (Calls _ _ _ _ _) := km
      clear km hr hsum hlen hf hz hlt hi2 hi1
      go_wp2_with (go_at_call 16; refine KM.out.mono ?_; rintro e w5 ⟨v5, rfl, hv5, hb5⟩)
      exact hQ.out _ _ ⟨v5, rfl, hv5.row, hbel.out.trans (hb5.mono hbel.out.size)⟩
end Go.Proofs.YthchcocolclpoaaDoor
