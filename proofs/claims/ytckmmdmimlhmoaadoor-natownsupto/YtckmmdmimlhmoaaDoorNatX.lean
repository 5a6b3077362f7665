import Derived.Test.YtckmmdmimlhmoaaDoorNatV
import Derived.Test.YtckmmdmimlhmoaaDoorNatW
namespace Go.Proofs.YtckmmdmimlhmoaaDoor
open Go.ChangeShapes Go.WideShapes Go.ChangeAt Go.RowKit
set_option linter.unusedVariables false
set_option linter.unusedSimpArgs false
set_option maxRecDepth 100000

/-! ### differences -/
theorem takt_nil (ao ab : Option Addr) (c cb q : Nat) (hc : c ≤ 9223372036854775807) (w : World) :
    Calls Tryd.prog 26 #[.slice ao 0 c, .slice ab 0 cb, .int .u64 q] w fun e w' => e = .returned (.bool false) ∧ w' = w := by
  refine cps fun Q hQ => ?_
  go_enter Tryd.func26, Tryd.ntmps26
  go_wp2
  go_loop [7, 16] (fun c a => c = .int .u64 0 ∧ a = .int .i64 0) (fun _ _ => 0)
  case atStart => exact ⟨rfl, rfl⟩
  case round =>
    obtain ⟨rfl, rfl⟩ := hrel
    go_wp2
    go_loop [7, 13] (fun c a => c = .int .u64 0 ∧ a = .int .i64 0) (fun _ _ => 0)
    case atStart => exact ⟨rfl, rfl⟩
    case round =>
      obtain ⟨rfl, rfl⟩ := hrel
      go_wp2
      exact hQ.out _ _ ⟨rfl, rfl⟩
theorem cmpN_nonneg {x y : Nat} (h : y ≤ x) : 0 ≤ cmpN x y := by
  rcases Nat.lt_or_eq_of_le h with g | g
  · rw [cmpN_gt g]; decide
  · rw [g, cmpN_eq]; decide
theorem cmpN_bound (x y : Nat) : -1 ≤ cmpN x y ∧ cmpN x y ≤ 1 := by
  rcases Nat.lt_trichotomy x y with g | g | g
  · rw [cmpN_lt g]; decide
  · rw [g, cmpN_eq]; decide
  · rw [cmpN_gt g]; decide
set_option maxHeartbeats 4000000 in
theorem natsub_lt (va vb : Value) (l m : List Nat) (hl : Limbs l) (hm : Limbs m) (hb : l.length ≤ 16777216) (hc : m.length ≤ 16777216) (hlt : uval l < uval m) (w : World) (h : RowU w va l) (g : RowU w vb m) :
    Calls Tryd.prog 9 #[va, vb] w fun e w' => e = .returned (.tuple #[.slice none 0 0, .iface 44 (.int .i64 6)]) ∧ Below w.heap.size w w' := by
  have k1 := natcmp_any va vb l m hl hm hb hc w h g
  rw [cmpN_lt hlt] at k1
  clear h g
  refine cps fun Q hQ => ?_
  go_enter Tryd.func9, Tryd.ntmps9
  go_wp2_with (go_at_call 24; refine k1.mono ?_; rintro e w1 ⟨rfl, hb1⟩)
  try go_ret2
  exact hQ.out _ _ ⟨rfl, hb1⟩
set_option maxHeartbeats 4000000 in
theorem natsub_own (va vb : Value) (l m : List Nat) (hl : Limbs l) (hm : Limbs m) (hb : l.length ≤ 16777216) (hc : m.length ≤ 16777216) (hge : uval m ≤ uval l) (w : World) (h : RowU w va l) (g : RowU w vb m) :
    Calls Tryd.prog 9 #[va, vb] w fun e w' => ∃ v', e = .returned (.tuple #[v', .nilIface]) ∧ OwnU w.heap.size w' v' (uval l - uval m) ∧ Below w.heap.size w w' := by
  have k1 := natcmp_any va vb l m hl hm hb hc w h g
  have hcn := cmpN_nonneg hge
  have hcb := (cmpN_bound (uval l) (uval m)).2
  have HK2 : Hid (∀ w', Below w.heap.size w w' → Calls Tryd.prog 25 #[va] w' fun e w2 => ∃ v', e = .returned v' ∧ Copy w'.heap.size w2 v' l ∧ Below w'.heap.size w' w2) := fun w' hbw => natclone_any va l (by omega) w' (h.below hbw)
  have HK3 : Hid (∀ w', Below w.heap.size w w' → Calls Tryd.prog 18 #[vb] w' fun e w2 => ∃ v', e = .returned v' ∧ RowU w' v' (lim (uval m)) ∧ w2 = w' ∧ v'.ownBlock = vb.ownBlock) := fun w' hbw => natcut_own vb m hm w' (g.below hbw)
  have hmlen : (lim (uval m)).length ≤ l.length := lim_length_le (Nat.lt_of_le_of_lt hge (uval_lt' l hl))
  obtain ⟨cv, hcv⟩ : ∃ c, c = cmpN (uval l) (uval m) := ⟨_, rfl⟩
  rw [← hcv] at k1 hcn hcb
  have HL : Hid (Limbs l) := hl
  have HG : Hid (RowU w vb m) := g
  have HML : Hid ((lim (uval m)).length ≤ l.length) := hmlen
  have HGE : Hid (uval m ≤ uval l) := hge
  have K1 : Hid (Calls _ _ _ _ _) := k1
  clear hcv h g hl k1 hge hmlen hm
  refine cps fun Q hQ => ?_
  go_enter Tryd.func9, Tryd.ntmps9
  go_wp2_with (first
    | (go_at_call 24; refine K1.out.mono ?_; rintro e w1 ⟨rfl, hb1⟩)
    | (go_at_call 25; refine (HK2.out _ hb1).mono ?_; rintro e w2 ⟨v2, rfl, hcp, hb2⟩
       obtain ⟨ao1, c1, rfl, hc1, hc2, hsh⟩ := hcp.shape
       have HSH : Hid (l.length = 0 ∨ ∃ g, ao1 = some ⟨g, 0, none⟩ ∧ w1.heap.size ≤ g ∧ Blk w2 g l) := hsh
       have HB2 : Hid (Below w.heap.size w w2) := hb1.trans (hb2.mono hb1.size)
       clear hcp hsh hb2)
    | (go_at_call 18; refine (HK3.out _ HB2.out).mono ?_; rintro e w' ⟨v3, rfl, hr3, hw, ho3⟩; rw [hw]; clear hw w'))
  obtain ⟨ab3, hv3, hm3, hrow3⟩ : ∃ ab3 c3, v3 = .slice ab3 (lim (uval m)).length c3 ∧ RowU w2 v3 (lim (uval m)) := by
    obtain ⟨ab3, c3, rfl, _⟩ := id hr3
    exact ⟨ab3, c3, rfl, hr3⟩
  rcases HSH.out with h0 | ⟨g, rfl, hg1, hbk⟩
  · have hl0 : l = [] := List.length_eq_zero_iff.1 h0
    have hm0 : (lim (uval m)).length = 0 := by have := HML.out; omega
    have hx0 : uval l = 0 := by rw [hl0]; rfl
    have hy0 : uval m = 0 := lim_nil.1 hm0
    rw [h0] at hc1 ⊢
    subst hm3
    rw [hm0]
    have kt := takt_nil ao1 ab3 c1 hv3 1 hc2 w2
    have kc := natcut_raw (.slice ao1 0 c1) [] (fun d hd => by cases hd) w2 ⟨ao1, c1, rfl, hc2, Nat.zero_le _, .inl rfl⟩
    have hu0 : (lim (uval [])).length = 0 := by rw [uval_nil, lim_zero]; rfl
    rw [hu0] at kc
    have KC : Hid (Calls Tryd.prog 18 #[.slice ao1 0 c1] w2 fun e w' => e = .returned (.slice ao1 0 0) ∧ w' = w2) := kc.mono fun e w' ⟨⟨ao5, c5, he5, h5⟩, hw⟩ => ⟨by injection he5 with q1 q2 q3; rw [q1]; exact h5, hw⟩
    have HX0 : Hid (uval l = 0) := hx0
    have HY0 : Hid (uval m = 0) := hy0
    clear kc hu0 HSH hr3 ho3 hrow3 hl0 h0 hm0 hx0 hy0
    go_wp2_with (first
      | (go_at_call 26; refine kt.mono ?_; rintro e w' ⟨rfl, hw⟩; rw [hw]; clear hw w')
      | (go_at_call 18; refine KC.out.mono ?_; rintro e w' ⟨rfl, hw⟩; rw [hw]; clear hw w'))
    try go_ret2
    refine hQ.out _ _ ⟨_, rfl, ?_, HB2.out⟩
    rw [HX0.out, HY0.out]
    exact ⟨ao1, by rw [lim_zero]; rfl, by rw [lim_zero]; decide, .inl lim_zero⟩
  · have hne : lim (uval m) ≠ [] → v3.ownBlock ≠ some g := fun hne => by
      rw [ho3]
      obtain ⟨g', e1, e2⟩ := HG.out.own_lt' (fun e => by rw [e, uval_nil, lim_zero] at hne; exact hne rfl)
      rw [e1]; intro e3; have := Option.some.inj e3; have := hb1.size; omega
    have kt := takt_any g c1 1 [] l [] (lim (uval m)) v3 HL.out (lim_limbs _) (by decide) HML.out hc1 hc2 (by simp; omega) w2 (by simpa using hbk) hr3 hne
    simp only [List.nil_append, List.append_nil, List.length_nil, uval_lim, Nat.mul_one] at kt
    have hd : decide (uval l < uval m) = false := decide_eq_false (by have := HGE.out; omega)
    rw [hd] at kt
    subst hm3
    have KT : Hid (Calls _ _ _ _ _) := kt
    clear kt hd hne hr3 ho3 hrow3 hbk HSH
    go_wp2_with (go_at_call 26; refine KT.out.mono ?_; rintro e w4 ⟨rfl, hex, hg4⟩)
    obtain ⟨L, k, l1, l2, l3, l4, l5⟩ := hex
    have hk0 : k = 0 := by
      refine Nat.eq_zero_of_not_pos fun h => ?_
      have := l4.1 h
      have := HGE.out
      omega
    subst hk0
    have hLv : uval L = uval l - uval m := by
      rw [Nat.mul_zero, Nat.add_zero] at l3
      omega
    have kc := cut_own' g c1 w.heap.size L l2 hc2 (by omega) (by have := hb1.size; omega) w4 l5
    rw [l1, hLv] at kc
    have KC : Hid (Calls _ _ _ _ _) := kc
    have HB4 : Hid (Below w.heap.size w w4) := HB2.out.trans (grown_below hg4 (by have := hb1.size; omega) HB2.out.size)
    clear kc l1 l2 l3 l4 l5 hg4 hLv
    go_wp2_with (go_at_call 18; refine KC.out.mono ?_; rintro e w' ⟨⟨v5, rfl, hv5⟩, hw⟩; rw [hw]; clear hw w')
    try go_ret2
    exact hQ.out _ _ ⟨_, rfl, hv5, HB4.out⟩

/-! ### shifts, handed out -/
theorem natshl_neg (va : Value) (l : List Nat) (k : Int) (hk : k < 0) (w : World) (h : RowU w va l) :
    Calls Tryd.prog 11 #[va, .int .i64 k] w fun e w' => e = .returned (.tuple #[.slice none 0 0, .iface 44 (.int .i64 1)]) ∧ Below w.heap.size w w' := by
  clear h
  refine cps fun Q hQ => ?_
  go_enter Tryd.func11, Tryd.ntmps11
  go_wp2
  exact hQ.out _ _ ⟨rfl, Below.refl _ _⟩
theorem natshl_long (va : Value) (l : List Nat) (k : Int) (hk : 65536 < k) (hk2 : k ≤ 9223372036854775807) (w : World) (h : RowU w va l) :
    Calls Tryd.prog 11 #[va, .int .i64 k] w fun e w' => e = .returned (.tuple #[.slice none 0 0, .iface 44 (.int .i64 3)]) ∧ Below w.heap.size w w' := by
  clear h
  refine cps fun Q hQ => ?_
  go_enter Tryd.func11, Tryd.ntmps11
  go_wp2
  exact hQ.out _ _ ⟨rfl, Below.refl _ _⟩
set_option maxHeartbeats 1000000 in
theorem natshl_own (va : Value) (l : List Nat) (hl : Limbs l) (hb : l.length ≤ 16777216) (k : Nat) (hk : k ≤ 65536) (w : World) (h : RowU w va l) :
    Calls Tryd.prog 11 #[va, .int .i64 k] w fun e w' => ∃ v, e = .returned (.tuple #[v, .nilIface]) ∧ OwnU w.heap.size w' v (uval l * 2 ^ k) ∧ Below w.heap.size w w' := by
  have k1 := natup_any va l hl (by omega) k (by omega) w h
  have K1 : Hid (Calls _ _ _ _ _) := k1
  have hkq : k / 64 + l.length + 1 ≤ 1073741824 := by omega
  have HKQ : Hid (k / 64 + l.length + 1 ≤ 1073741824) := hkq
  clear k1 h hl hkq
  refine cps fun Q hQ => ?_
  go_enter Tryd.func11, Tryd.ntmps11
  go_wp2_with (first
    | (go_at_call 28; refine K1.out.mono ?_; rintro e w1 ⟨L, rfl, l1, l2, l3, l4, l5⟩
       have kc := cut_own' w.heap.size (k / 64 + l.length + 1) w.heap.size L l2 (by have := HKQ.out; omega) (by omega) (Nat.le_refl _) w1 l4
       rw [l1, l3] at kc
       have KC : Hid (Calls _ _ _ _ _) := kc
       clear kc l1 l2 l3 l4)
    | (go_at_call 18; refine KC.out.mono ?_; rintro e w' ⟨⟨v5, rfl, hv5⟩, hw⟩; rw [hw]; clear hw w'))
  exact hQ.out _ _ ⟨_, rfl, hv5, l5⟩
theorem natshr_neg (va : Value) (l : List Nat) (k : Int) (hk : k < 0) (w : World) (h : RowU w va l) :
    Calls Tryd.prog 12 #[va, .int .i64 k] w fun e w' => e = .returned (.tuple #[.slice none 0 0, .bool false, .iface 44 (.int .i64 1)]) ∧ Below w.heap.size w w' := by
  clear h
  refine cps fun Q hQ => ?_
  go_enter Tryd.func12, Tryd.ntmps12
  go_wp2
  try go_ret3
  exact hQ.out _ _ ⟨rfl, Below.refl _ _⟩
set_option maxHeartbeats 1000000 in
theorem natshr_own (va : Value) (l : List Nat) (hl : Limbs l) (hb : l.length ≤ 16777216) (k : Nat) (hk : k ≤ 9223372036854775807) (w : World) (h : RowU w va l) :
    Calls Tryd.prog 12 #[va, .int .i64 k] w fun e w' => ∃ v, e = .returned (.tuple #[v, .bool (decide (uval l % 2 ^ k ≠ 0)), .nilIface]) ∧ OwnU w.heap.size w' v (uval l / 2 ^ k) ∧ Below w.heap.size w w' := by
  have k1 := natdown_any va l hl (by omega) k hk w h
  have K1 : Hid (Calls _ _ _ _ _) := k1
  generalize decide (uval l % 2 ^ k ≠ 0) = r at *
  clear k1 h hl
  refine cps fun Q hQ => ?_
  go_enter Tryd.func12, Tryd.ntmps12
  go_wp2_with (go_at_call 31; refine K1.out.mono ?_; rintro e w1 ⟨v, rfl, hv, hb1⟩)
  try go_ret3
  exact hQ.out _ _ ⟨_, rfl, hv, hb1⟩
end Go.Proofs.YtckmmdmimlhmoaaDoor
