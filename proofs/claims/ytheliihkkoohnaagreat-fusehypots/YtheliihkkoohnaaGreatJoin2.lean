import Derived.Test.YtheliihkkoohnaaGreatJoin1
import Derived.Deep.RegionLaw
import Derived.Deep.CutBlock
import Derived.Deep.CutRange
namespace Go.Proofs.YtheliihkkoohnaaGreat
open Go.ChangeShapes Go.WideShapes Go.ChangeAt Go.RowKit
set_option linter.unusedVariables false
set_option linter.unusedSimpArgs false
set_option maxRecDepth 100000

theorem cthen {a W w : World} (h : Below a.heap.size a W) (hb : Below W.heap.size W w) : Below a.heap.size a w := h.trans (hb.mono h.size)
theorem cmore {a w : World} (h : Below a.heap.size a w) (o : Obj) : Below a.heap.size a (w.alloc o) := h.alloc h.size o
theorem cdrew {a W : World} (h : Below a.heap.size a W) : Below a.heap.size a W.drew := h.drew
theorem cset {a W : World} {b : Nat} (h : Below a.heap.size a W) (hb : a.heap.size ≤ b) (o : Nat) (v : Value) : Below a.heap.size a (W.setCell ⟨b, o, none⟩ v) := h.setCell hb _
theorem ccell {W w1 : World} (hb : Below W.heap.size W w1) : (∀ b o, b < W.heap.size → w1.cell? ⟨b, o, none⟩ = W.cell? ⟨b, o, none⟩) ∧ (∀ b o, b < W.heap.size → w1.frozen? ⟨b, o, none⟩ = W.frozen? ⟨b, o, none⟩) :=
  ⟨fun b o h => hb.cell (p := ⟨b, o, none⟩) h, fun b o h => hb.frozen (p := ⟨b, o, none⟩) h⟩
theorem rowcell {w : World} {m : Nat} {c : Array Value} {t : TypeId} (h : w.heap[m]? = some (.cells c t (0, 0))) (k : Nat) : w.cell? ⟨m, k, none⟩ = c[k]? := by simp [World.cell?, h]
theorem rowfree {w : World} {m : Nat} {c : Array Value} {t : TypeId} (h : w.heap[m]? = some (.cells c t (0, 0))) (k : Nat) : w.frozen? ⟨m, k, none⟩ = false := by simp [World.frozen?, h]
theorem rowset {w : World} {m : Nat} {c : Array Value} {t : TypeId} (h : w.heap[m]? = some (.cells c t (0, 0))) (k : Nat) (v : Value) : (w.setCell ⟨m, k, none⟩ v).heap[m]? = some (.cells (c.setIfInBounds k v) t (0, 0)) :=
  heap_setCell_same w m k c t v h
theorem rownew (w : World) (c : Array Value) (t : TypeId) : (w.alloc (.cells c t)).heap[w.heap.size]? = some (.cells c t (0, 0)) := by
  show (w.heap.push _)[w.heap.size]? = _
  exact Array.getElem?_push_size
theorem rownew' (w : World) (c : Array Value) (t : TypeId) (m : Nat) (h : m = w.heap.size) : (w.alloc (.cells c t)).heap[m]? = some (.cells c t (0, 0)) := by subst h; exact rownew w c t
theorem row8 {w : World} {m : Nat} {u0 u1 u2 u3 u4 u5 u6 u7 v0 v1 v2 v3 v4 v5 v6 v7 : Value} {t : TypeId} (h : w.heap[m]? = some (.cells #[u0, u1, u2, u3, u4, u5, u6, u7] t (0, 0))) :
    ((((((((w.setCell ⟨m, 0, none⟩ v0).setCell ⟨m, 1, none⟩ v1).setCell ⟨m, 2, none⟩ v2).setCell ⟨m, 3, none⟩ v3).setCell ⟨m, 4, none⟩ v4).setCell ⟨m, 5, none⟩ v5).setCell ⟨m, 6, none⟩ v6).setCell ⟨m, 7, none⟩ v7).heap[m]? = some (.cells #[v0, v1, v2, v3, v4, v5, v6, v7] t (0, 0)) := by
  have h := rowset h 0 v0
  simp only [List.setIfInBounds_toArray, List.set_cons_zero, List.set_cons_succ] at h
  have h := rowset h 1 v1
  simp only [List.setIfInBounds_toArray, List.set_cons_zero, List.set_cons_succ] at h
  have h := rowset h 2 v2
  simp only [List.setIfInBounds_toArray, List.set_cons_zero, List.set_cons_succ] at h
  have h := rowset h 3 v3
  simp only [List.setIfInBounds_toArray, List.set_cons_zero, List.set_cons_succ] at h
  have h := rowset h 4 v4
  simp only [List.setIfInBounds_toArray, List.set_cons_zero, List.set_cons_succ] at h
  have h := rowset h 5 v5
  simp only [List.setIfInBounds_toArray, List.set_cons_zero, List.set_cons_succ] at h
  have h := rowset h 6 v6
  simp only [List.setIfInBounds_toArray, List.set_cons_zero, List.set_cons_succ] at h
  have h := rowset h 7 v7
  simp only [List.setIfInBounds_toArray, List.set_cons_zero, List.set_cons_succ] at h
  exact h
theorem cset8 {a W : World} {m : Nat} {v0 v1 v2 v3 v4 v5 v6 v7 : Value} (h : Below a.heap.size a W) (hb : a.heap.size ≤ m) :
    Below a.heap.size a ((((((((W.setCell ⟨m, 0, none⟩ v0).setCell ⟨m, 1, none⟩ v1).setCell ⟨m, 2, none⟩ v2).setCell ⟨m, 3, none⟩ v3).setCell ⟨m, 4, none⟩ v4).setCell ⟨m, 5, none⟩ v5).setCell ⟨m, 6, none⟩ v6).setCell ⟨m, 7, none⟩ v7) :=
  cset (cset (cset (cset (cset (cset (cset (cset h hb 0 v0) hb 1 v1) hb 2 v2) hb 3 v3) hb 4 v4) hb 5 v5) hb 6 v6) hb 7 v7
theorem rowlt {w : World} {m : Nat} {c : Array Value} {t : TypeId} (h : w.heap[m]? = some (.cells c t (0, 0))) : m < w.heap.size := (Array.getElem?_eq_some_iff.1 h).1
/-! ### Split -/
def fdV (neg : Bool) (l : List Bool) : Value := .agg #[.bool neg, .bool (onesL l), .int .i64 (runL l), .int .i64 (regL l), .int .i64 (min (restL l).length 2 : Nat), .int .i64 (expL l), .int .i64 ((restL l).length - 2 : Nat), .int .u64 (fracL l)]
theorem strS_length (n x : Nat) : (strS n x).length = n - 1 := by unfold strS; split <;> rw [List.length_drop, bitsOf_length]
theorem char_eq (b : Bool) : ((48 + ((b.toNat : Nat) : Int)) == 49) = b := by cases b <;> rfl
theorem restL_length (l : List Bool) : (restL l).length = l.length - (runL l + 1) := by unfold restL; rw [List.length_drop]
theorem exp_take (u : List Bool) (E : Nat) (h : (E = u.length ∧ u.length ≤ 2) ∨ (E = 2 ∧ 2 < u.length)) : (u.take E ++ [false, false]).take 2 = (u ++ noughts 2).take 2 := by
  rcases h with ⟨rfl, h⟩ | ⟨rfl, h⟩
  · rw [List.take_of_length_le (Nat.le_refl _)]; rfl
  · rw [List.take_append_of_le_length (by rw [List.length_take]; omega), List.take_append_of_le_length (by omega), List.take_take]; rfl
theorem frac_drop (u : List Bool) (E : Nat) (h : (E = u.length ∧ u.length ≤ 2) ∨ (E = 2 ∧ 2 < u.length)) : u.drop E = u.drop 2 := by
  rcases h with ⟨rfl, h⟩ | ⟨rfl, h⟩
  · rw [List.drop_of_length_le (Nat.le_refl _), List.drop_of_length_le h]
  · rfl
theorem runL_le (l : List Bool) : runL l ≤ l.length := by
  cases l with
  | nil => exact Nat.le_refl _
  | cons b l =>
    have := (List.takeWhile_sublist (· == b) (l := l)).length_le
    rw [runL, List.length_cons]; omega
set_option maxHeartbeats 4000000 in
theorem split6_real (n x : Nat) (hn : Wd n) (hx : x < 2 ^ 64) (hk : kindOf n (x % 2 ^ n) = 1) (w : World) :
    Calls Tryz.prog 108 #[.int .i64 n, .int .u64 x] w fun e w' => e = .returned (.tuple #[fdV (x.testBit (n - 1)) (strS n x), .int .i64 0]) ∧ Below w.heap.size w w' := by
  have k1 := rkind_ok n x hn
  rw [hk] at k1
  have hw := wd_le hn
  have hlen := strS_length n x
  have k2 := string6_any n x (by omega) hw.2 hx
  have k3 := text_any x n hw.2
  have HL : Hid _ := hlen
  clear hn hx hk hlen
  refine cps fun Q hQ => ?_
  generalize strS n x = l at *
  have hl0 : 0 < l.length := by rw [HL.out]; omega
  have hlm : l.length ≤ 1048576 := by rw [HL.out]; omega
  have HLB : Hid (0 < l.length ∧ l.length ≤ 1048576) := ⟨hl0, hlm⟩
  clear hl0 hlm
  go_enter Tryz.func108, Tryz.ntmps108
  go_upto_region 5 with (first
    | (go_at_call 107; refine (k1 _).mono ?_; rintro e w1 ⟨rfl, hb1⟩; have HB1 : Hid (Below _ _ _) := hb1; clear hb1)
    | (go_at_call 126; refine (k2 _).mono ?_; rintro e w2 ⟨s, rfl, hs, hb2⟩; have HB2 : Hid (Below _ _ _) := hb2; clear hb2))
  have HS : Hid (IsBits s l) := hs
  have hsz := isBits_size hs
  rw [HL.out] at hsz
  have hs0 : (s[0]'(by omega)).toNat = 48 + (l.getD 0 false).toNat := by
    rw [isBits_get hs 0 (by omega)]; cases l.getD 0 false <;> rfl
  have e0 := char_eq (l.getD 0 false)
  have HSZ : Hid (s.size = n - 1) := hsz
  have k4 := fun w => run6_any s l HS.out HLB.out.1 HLB.out.2 w
  obtain ⟨o, ho⟩ : ∃ o, o = l.getD 0 false := ⟨_, rfl⟩
  rw [← ho] at hs0 e0
  have HO : Hid (o = onesL l) := ho
  obtain ⟨r, hr⟩ : ∃ r, r = runL l := ⟨_, rfl⟩
  rw [← hr] at k4
  have HR : Hid (r = runL l) := hr
  obtain ⟨b, hbx⟩ : ∃ b, b = x.testBit (n - 1) := ⟨_, rfl⟩
  have HBX : Hid (b = x.testBit (n - 1)) := hbx
  have e1 := char_eq b
  have HTX : Hid (∀ (t : ByteArray) (ht : IsBits t (bitsOf x n)) (hj : 0 < t.size), (t[0]'hj).toNat = 48 + b.toNat) := fun t ht hj => by rw [hbx]; exact bits_top x n (by omega) t ht hj
  clear ho hr hs hbx
  have hn1 : 0 < n - 1 := by omega
  have hn2 : 0 < n := by omega
  go_cut [9] from 29 (fun s9 wx => ∃ m : Nat, s9 = .pointer (some ⟨m, 0, none⟩) ∧ Below w2.heap.size w2 wx ∧ w2.heap.size ≤ m ∧ wx.heap[m]? = some (.cells #[.bool b, .bool o, .int .i64 r, .int .i64 0, .int .i64 0, .int .i64 0, .int .i64 0, .int .u64 0] 64 (0, 0)))
  case first =>
    refine wpC_region (fun W => True) (by kernel_rfl) ?_
    refine wpC_take 0 (v := ?_) rfl (by kernel_rfl) (fun _ _ _ h => h) (by kernel_rfl) ?_ ?_; rotate_left; · (intro wC hC; obtain _ := hC; go_simp <;> with_reducible rfl)
    refine wpC_take 1 (v := ?_) rfl (by kernel_rfl) (fun _ _ _ h => h) (by kernel_rfl) ?_ ?_; rotate_left; · (intro wC hC; obtain _ := hC; go_simp <;> with_reducible rfl)
    refine wpC_take 5 (v := ?_) rfl (by kernel_rfl) (fun _ _ _ h => h) (by kernel_rfl) ?_ ?_; rotate_left; · (intro wC hC; obtain _ := hC; go_simp <;> with_reducible rfl)
    refine wpC_take 6 (v := ?_) rfl (by kernel_rfl) (fun _ _ _ h => h) (by kernel_rfl) ?_ ?_; rotate_left; · (intro wC hC; obtain _ := hC; go_simp <;> with_reducible rfl)
    refine wpC_take 7 (v := ?_) rfl (by kernel_rfl) (fun _ _ _ h => h) (by kernel_rfl) ?_ ?_; rotate_left; · (intro wC hC; obtain _ := hC; go_simp <;> with_reducible rfl)
    refine wpC_take 8 (v := ?_) rfl (by kernel_rfl) (fun _ _ _ h => h) (by kernel_rfl) ?_ ?_; rotate_left; · (intro wC hC; obtain _ := hC; go_simp <;> with_reducible rfl)
    refine wpC_two 2 11 rfl rfl (by kernel_rfl) (by kernel_rfl) (by kernel_rfl) trivial (fun K hK => ?_) (fun K hK => ?_)
    · skip
      go_simp
      go_wp2_with ((go_at_call 109; refine (k3 _).mono ?_; rintro e w3 ⟨t, rfl, ht, hb3⟩; have htz := isBits_size ht; rw [bitsOf_length] at htz; have ht0 := HTX.out t ht (by omega)))
      try (refine hK _ _ ?_; clear hK K)
      have B3 := cthen (cdrew (Below.refl w2.heap.size w2)) hb3
      refine wpC_take 3 (v := ?_) rfl (by kernel_rfl) (fun _ _ _ h => h) (by kernel_rfl) ?_ ?_; rotate_left; · (intro wC hC; obtain _ := hC; go_simp <;> with_reducible rfl)
      refine wpC_take 4 (v := ?_) rfl (by kernel_rfl) (fun _ _ _ h => h) (by kernel_rfl) ?_ ?_; rotate_left; · (intro wC hC; obtain _ := hC; go_simp <;> with_reducible rfl)
      refine wpC_two 9 11 rfl rfl (by kernel_rfl) (by kernel_rfl) (by kernel_rfl) trivial (fun K hK => ?_) (fun K hK => ?_)
      · skip
        go_simp
        go_wp2_with ((go_at_call 127; refine (k4 _).mono ?_; rintro e w4 ⟨rfl, q4, hq4⟩; have hb4 : Below w3.heap.size w3 w4 := hq4 ▸ below_drewN (Below.refl _ _) q4; clear hq4))
        try (refine hK _ _ ?_; clear hK K)
        have B4 := cthen B3 hb4
        refine wpC_take 10 (v := ?_) rfl (by kernel_rfl) (fun _ _ _ h => h) (by kernel_rfl) ?_ ?_; rotate_left; · (intro wC hC; obtain _ := hC; go_simp <;> with_reducible rfl)
        refine wpC_step 11 rfl (by kernel_rfl) (by kernel_rfl) trivial (fun K hK => ?_)
        go_simp
        try (refine hK _ _ ?_; clear hK K)
        refine wpC_step 12 rfl (by kernel_rfl) (by kernel_rfl) trivial (fun K hK => ?_)
        go_simp
        try (refine hK _ _ ?_; clear hK K)
        refine wpC_done (C := fun _ => True) (by kernel_rfl) trivial ?_
        go_wp2_with fail
        go_meet
        case rel => exact ⟨_, rfl, cmore B4 _, B4.size, rownew _ _ _⟩
      · skip
        go_simp
        try (refine hK _ _ ?_; clear hK K)
        refine wpC_step 9 rfl (by kernel_rfl) (by kernel_rfl) trivial (fun K hK => ?_)
        go_simp
        go_wp2_with ((go_at_call 127; refine (k4 _).mono ?_; rintro e w4 ⟨rfl, q4, rfl⟩))
        try (refine hK _ _ ?_; clear hK K)
        refine wpC_take 10 (v := ?_) rfl (by kernel_rfl) (fun _ _ _ h => h) (by kernel_rfl) ?_ ?_; rotate_left; · (intro wC hC; obtain _ := hC; go_simp <;> with_reducible rfl)
        refine wpC_step 12 rfl (by kernel_rfl) (by kernel_rfl) trivial (fun K hK => ?_)
        go_simp
        try (refine hK _ _ ?_; clear hK K)
        refine wpC_done (C := fun _ => True) (by kernel_rfl) trivial ?_
        go_wp2_with fail
        go_meet
        case rel => exact ⟨_, rfl, cset8 (below_drewN (cmore B3 _) _) B3.size, B3.size, row8 (rownew w3 _ _)⟩
    · skip
      go_simp
      try (refine hK _ _ ?_; clear hK K)
      refine wpC_step 2 rfl (by kernel_rfl) (by kernel_rfl) trivial (fun K hK => ?_)
      go_simp
      go_wp2_with ((go_at_call 109; refine (k3 _).mono ?_; rintro e w3 ⟨t, rfl, ht, hb3⟩; have htz := isBits_size ht; rw [bitsOf_length] at htz; have ht0 := HTX.out t ht (by omega); obtain ⟨hc3, hf3⟩ := ccell hb3; have y4 : w2.heap.size < w3.heap.size := (by have := hb3.size; simp at this; omega)))
      try (refine hK _ _ ?_; clear hK K)
      have B3 := cthen (cmore (cdrew (Below.refl w2.heap.size w2)) _) hb3
      have R3 := (hb3.block w2.heap.size (by simp)).trans (rownew w2.drew _ _)
      refine wpC_take 3 (v := ?_) rfl (by kernel_rfl) (fun _ _ _ h => h) (by kernel_rfl) ?_ ?_; rotate_left; · (intro wC hC; obtain _ := hC; go_simp <;> with_reducible rfl)
      refine wpC_take 4 (v := ?_) rfl (by kernel_rfl) (fun _ _ _ h => h) (by kernel_rfl) ?_ ?_; rotate_left; · (intro wC hC; obtain _ := hC; go_simp <;> with_reducible rfl)
      refine wpC_step 9 rfl (by kernel_rfl) (by kernel_rfl) trivial (fun K hK => ?_)
      go_simp
      go_wp2_with ((go_at_call 127; refine (k4 _).mono ?_; rintro e w4 ⟨rfl, q4, rfl⟩))
      try (refine hK _ _ ?_; clear hK K)
      refine wpC_take 10 (v := ?_) rfl (by kernel_rfl) (fun _ _ _ h => h) (by kernel_rfl) ?_ ?_; rotate_left; · (intro wC hC; obtain _ := hC; go_simp <;> with_reducible rfl)
      refine wpC_step 12 rfl (by kernel_rfl) (by kernel_rfl) trivial (fun K hK => ?_)
      go_simp
      try (refine hK _ _ ?_; clear hK K)
      refine wpC_done (C := fun _ => True) (by kernel_rfl) trivial ?_
      go_wp2_with fail
      go_meet
      case rel => exact ⟨_, rfl, cset8 (below_drewN B3 _) (Nat.le_refl _), Nat.le_refl _, row8 R3⟩
  case rest =>
    obtain ⟨m, rfl, HB, hm, hrow⟩ := hcut
    have z1 : w.heap.size < w1.heap.size := by have := HB1.out.size; simp at this; omega
    have z2 := HB2.out.size
    have RB : Hid (w2.heap[w.heap.size]? = some (.cells #[.bool false, .bool false, .int .i64 0, .int .i64 0, .int .i64 0, .int .i64 0, .int .i64 0, .int .u64 0] 64 (0, 0))) :=
      (HB2.out.block _ z1).trans ((HB1.out.block _ (by simp)).trans (rownew w _ _))
    have HBW : Hid (Below w.heap.size w w2) := cthen (cthen (cmore (Below.refl _ _) _) HB1.out) HB2.out
    have z3 : w.heap.size < w2.heap.size := by omega
    have hne1 : ¬ m = w.heap.size := by omega
    have hne2 : ¬ w.heap.size = m := by omega
    clear HB1 HB2 z1 z2
    have c1 := rowcell hrow 1
    have c2 := rowcell hrow 2
    have c0 := rowcell hrow 0
    have c3 := rowcell hrow 3
    have c4 := rowcell hrow 4
    have c5 := rowcell hrow 5
    have c6 := rowcell hrow 6
    have c7 := rowcell hrow 7
    have cf := rowfree hrow
    simp only [List.getElem?_toArray, List.getElem?_cons_zero, List.getElem?_cons_succ] at c0 c1 c2 c3 c4 c5 c6 c7
    have hrl := runL_le l
    rw [← HR.out, HL.out] at hrl
    have HRL : Hid ((restL l).length = n - 1 - (r + 1)) := by
      show _ = _
      rw [restL_length, ← HR.out, HL.out]
    have HRESTB : Hid (IsBits (s.extract (r + 1) (n - 1)) (restL l)) := by
      have := isBits_extract HS.out (r + 1) (n - 1)
      rw [List.take_of_length_le (by rw [List.length_drop, HL.out]; exact Nat.le_refl _), HR.out] at this
      rw [HR.out]; exact this
    have HBB : Hid (Below w2.heap.size w2 wc) := HB
    have HROW : Hid _ := hrow
    have hr4 : ∀ u v z, (((wc.setCell ⟨m, 3, none⟩ u).setCell ⟨m, 4, none⟩ v).setCell ⟨m, 4, none⟩ z).cell? ⟨m, 4, none⟩ = some z := fun u v z => by
      rw [rowcell (rowset (rowset (rowset hrow 3 u) 4 v) 4 z) 4]; rfl
    have hr5 : ∀ u' u v z, ((((wc.setCell ⟨m, 3, none⟩ u').setCell ⟨m, 3, none⟩ u).setCell ⟨m, 4, none⟩ v).setCell ⟨m, 4, none⟩ z).cell? ⟨m, 4, none⟩ = some z := fun u' u v z => by
      rw [rowcell (rowset (rowset (rowset (rowset hrow 3 u') 3 u) 4 v) 4 z) 4]; rfl
    clear hrow HB k1 k2 k3 k4 hs0 e0 e1
    by_cases hrn : r < n - 1
    · obtain ⟨q, hq⟩ : ∃ q, q = n - 1 - (r + 1) := ⟨_, rfl⟩
      have HQ : Hid (q = n - 1 - (r + 1)) := hq
      have r1 := slice_l (P := Tryz.prog) (s := s) Tryz.underlying9 ((r : Int) + 1) (r + 1) (by omega) (by rw [hsz]; omega)
      rw [hsz] at r1
      have hRz : (s.extract (r + 1) (n - 1)).size = q := by rw [isBits_size HRESTB.out, HRL.out, hq]
      generalize s.extract (r + 1) (n - 1) = R at *
      by_cases hq2 : q ≤ 2
      · have hz00 : (⟨#[48, 48]⟩ : ByteArray).size = 2 := rfl
        have hE : (q = q ∧ q ≤ 2) ∨ (q = 2 ∧ 2 < q) := by omega
        have hEu : (q = (restL l).length ∧ (restL l).length ≤ 2) ∨ (q = 2 ∧ 2 < (restL l).length) := by rw [HRL.out, ← HQ.out]; exact hE
        have g1 := slice_h (P := Tryz.prog) (s := R) Tryz.underlying9 (q : Int) q (by first | rfl | omega) (by omega)
        have g2 := slice_l (P := Tryz.prog) (s := R) Tryz.underlying9 (q : Int) q (by first | rfl | omega) (by omega)
        have hez : (R.extract 0 q).size = q := by rw [ByteArray.size_extract]; omega
        have g3 := fun wx => run_string_add_sum (P := Tryz.prog) wx (R.extract 0 q) ⟨#[48, 48]⟩ (by rw [hez, hz00]; omega)
        have hI1 : IsBits (R.extract 0 q ++ ⟨#[48, 48]⟩) ((restL l).take q ++ [false, false]) := by
          have := isBits_append (isBits_extract HRESTB.out 0 q) (show IsBits ⟨#[48, 48]⟩ [false, false] from rfl)
          simpa using this
        have hI2 : IsBits (R.extract q q) ((restL l).drop 2) := by
          have := isBits_extract HRESTB.out q q
          rw [List.take_of_length_le (by rw [List.length_drop, HRL.out, ← HQ.out]; exact Nat.le_refl _), frac_drop _ _ hEu] at this
          exact this
        have hl2 : ((restL l).drop 2).length ≤ 64 := by rw [List.length_drop, HRL.out]; omega
        rw [hRz] at g2
        generalize R.extract q q = F at *
        have hXz : (R.extract 0 q ++ ⟨#[48, 48]⟩).size = q + 2 := by rw [ByteArray.size_append, hez, hz00]
        generalize R.extract 0 q ++ ⟨#[48, 48]⟩ = X at *
        have g4 := slice_h (P := Tryz.prog) (s := X) Tryz.underlying9 2 2 rfl (by omega)
        have hI3 : IsBits (X.extract 0 2) ((restL l ++ noughts 2).take 2) := by
          have := isBits_extract hI1 0 2
          rw [List.drop_zero, exp_take _ _ hEu] at this
          exact this
        have hl3 : ((restL l ++ noughts 2).take 2).length ≤ 64 := by rw [List.length_take]; omega
        have k5 := number_any _ _ hI3 hl3
        have k6 := number_any _ _ hI2 hl2
        rw [show numOf ((restL l ++ noughts 2).take 2) = expL l from rfl] at k5
        rw [show numOf ((restL l).drop 2) = fracL l from rfl] at k6
        have hex : expL l < 4 := by
          have := numOf_lt ((restL l ++ noughts 2).take 2)
          rw [show ((restL l ++ noughts 2).take 2).length = 2 by simp] at this
          exact this
        have HF : Hid (Below w2.heap.size w2 wc) := HBB.out
        generalize X.extract 0 2 = Y at *
        obtain ⟨ee, hee⟩ : ∃ ee, ee = expL l := ⟨_, rfl⟩
        obtain ⟨ff, hff⟩ : ∃ ff, ff = fracL l := ⟨_, rfl⟩
        rw [← hee] at k5 hex
        rw [← hff] at k6
        have HEF : Hid (ee = expL l ∧ ff = fracL l) := ⟨hee, hff⟩
        have HE : Hid ((q = q ∧ q ≤ 2) ∨ (q = 2 ∧ 2 < q)) := hE
        have hqb : q ≤ 62 := by omega
        clear hE hEu hI1 hI2 hI3 hl2 hl3 hz00 hez hee hff hq
        cases o
        · go_wp2_with fail
          refine (k5 _).mono ?_
          rintro e w5 ⟨rfl, rfl⟩
          go_wp2_with fail
          refine (k6 _).mono ?_
          rintro e w6 ⟨rfl, hw6⟩
          have R6 : w6.heap[m]? = some (.cells #[.bool b, .bool false, .int .i64 r, .int .i64 (-(r : Int)), .int .i64 (q : Int), .int .i64 ee, .int .i64 0, .int .u64 0] 64 (0, 0)) := by
            rw [hw6]
            refine (rowset (rowset (rowset (rowset HROW.out 3 _) 4 _) 5 _) 6 _).trans ?_
            simp only [List.setIfInBounds_toArray, List.set_cons_zero, List.set_cons_succ]
          have B6 : Below w2.heap.size w2 w6 := by rw [hw6]; exact (cset (cset (cset (cset HBB.out hm 3 _) hm 4 _) hm 5 _) hm 6 _)
          have HB6 : Hid (Below w2.heap.size w2 w6) := B6
          have HR6 : Hid _ := R6
          have d0 := rowcell R6 0
          have d1 := rowcell R6 1
          have d2 := rowcell R6 2
          have d3 := rowcell R6 3
          have d4 := rowcell R6 4
          have d5 := rowcell R6 5
          have d6 := rowcell R6 6
          have d7 := rowcell R6 7
          have df := rowfree R6
          simp only [List.getElem?_toArray, List.getElem?_cons_zero, List.getElem?_cons_succ] at d0 d1 d2 d3 d4 d5 d6 d7
          have R0 := (B6.block _ z3).trans RB.out
          have b0 := rowcell R0 0
          have b1 := rowcell R0 1
          have b2 := rowcell R0 2
          have b3 := rowcell R0 3
          have b4 := rowcell R0 4
          have b5 := rowcell R0 5
          have b6 := rowcell R0 6
          have b7 := rowcell R0 7
          have bf := rowfree R0
          simp only [List.getElem?_toArray, List.getElem?_cons_zero, List.getElem?_cons_succ] at b0 b1 b2 b3 b4 b5 b6 b7
          clear R0 hw6 R6 B6 c0 c1 c2 c3 c4 c5 c6 c7 cf
          go_wp2
          have e1 : min q 2 = q := by omega
          have e2 : q - 2 = 0 := by omega
          have hv : fdV (x.testBit (n - 1)) l = .agg #[.bool b, .bool false, .int .i64 r, .int .i64 (-(r : Int)), .int .i64 (q : Int), .int .i64 ee, .int .i64 0, .int .u64 ff] := by
            unfold fdV regL
            rw [← HBX.out, ← HO.out, ← HR.out, HRL.out, ← HQ.out, ← HEF.out.1, ← HEF.out.2, e1, e2]
            rfl
          refine bodyPost_ret (v := .tuple #[.agg #[.bool b, .bool false, .int .i64 r, .int .i64 (-(r : Int)), .int .i64 (q : Int), .int .i64 ee, .int .i64 0, .int .u64 ff], .int .i64 0]) (by simp [results, Tryz.results108, go_sem, b0, b1, b2, b3, b4, b5, b6, b7, hne1, hne2, e2]) rfl (hQ.out _ _ ⟨by rw [hv], ?_⟩)
          have hmw : w.heap.size ≤ m := by omega
          exact cset8 (cset (cthen HBW.out HB6.out) hmw _ _) (Nat.le_refl _)
        · go_wp2_with fail
          refine (k5 _).mono ?_
          rintro e w5 ⟨rfl, rfl⟩
          go_wp2_with fail
          refine (k6 _).mono ?_
          rintro e w6 ⟨rfl, hw6⟩
          have R6 : w6.heap[m]? = some (.cells #[.bool b, .bool true, .int .i64 r, .int .i64 ((r : Int) - 1), .int .i64 (q : Int), .int .i64 ee, .int .i64 0, .int .u64 0] 64 (0, 0)) := by
            rw [hw6]
            refine (rowset (rowset (rowset (rowset (rowset HROW.out 3 _) 3 _) 4 _) 5 _) 6 _).trans ?_
            simp only [List.setIfInBounds_toArray, List.set_cons_zero, List.set_cons_succ]
          have B6 : Below w2.heap.size w2 w6 := by rw [hw6]; exact (cset (cset (cset (cset (cset HBB.out hm 3 _) hm 3 _) hm 4 _) hm 5 _) hm 6 _)
          have HB6 : Hid (Below w2.heap.size w2 w6) := B6
          have HR6 : Hid _ := R6
          have d0 := rowcell R6 0
          have d1 := rowcell R6 1
          have d2 := rowcell R6 2
          have d3 := rowcell R6 3
          have d4 := rowcell R6 4
          have d5 := rowcell R6 5
          have d6 := rowcell R6 6
          have d7 := rowcell R6 7
          have df := rowfree R6
          simp only [List.getElem?_toArray, List.getElem?_cons_zero, List.getElem?_cons_succ] at d0 d1 d2 d3 d4 d5 d6 d7
          have R0 := (B6.block _ z3).trans RB.out
          have b0 := rowcell R0 0
          have b1 := rowcell R0 1
          have b2 := rowcell R0 2
          have b3 := rowcell R0 3
          have b4 := rowcell R0 4
          have b5 := rowcell R0 5
          have b6 := rowcell R0 6
          have b7 := rowcell R0 7
          have bf := rowfree R0
          simp only [List.getElem?_toArray, List.getElem?_cons_zero, List.getElem?_cons_succ] at b0 b1 b2 b3 b4 b5 b6 b7
          clear R0 hw6 R6 B6 c0 c1 c2 c3 c4 c5 c6 c7 cf
          go_wp2
          have e1 : min q 2 = q := by omega
          have e2 : q - 2 = 0 := by omega
          have hv : fdV (x.testBit (n - 1)) l = .agg #[.bool b, .bool true, .int .i64 r, .int .i64 ((r : Int) - 1), .int .i64 (q : Int), .int .i64 ee, .int .i64 0, .int .u64 ff] := by
            unfold fdV regL
            rw [← HBX.out, ← HO.out, ← HR.out, HRL.out, ← HQ.out, ← HEF.out.1, ← HEF.out.2, e1, e2]
            rfl
          refine bodyPost_ret (v := .tuple #[.agg #[.bool b, .bool true, .int .i64 r, .int .i64 ((r : Int) - 1), .int .i64 (q : Int), .int .i64 ee, .int .i64 0, .int .u64 ff], .int .i64 0]) (by simp [results, Tryz.results108, go_sem, b0, b1, b2, b3, b4, b5, b6, b7, hne1, hne2, e2]) rfl (hQ.out _ _ ⟨by rw [hv], ?_⟩)
          have hmw : w.heap.size ≤ m := by omega
          exact cset8 (cset (cthen HBW.out HB6.out) hmw _ _) (Nat.le_refl _)
      · have hz00 : (⟨#[48, 48]⟩ : ByteArray).size = 2 := rfl
        have hE : (2 = q ∧ q ≤ 2) ∨ (2 = 2 ∧ 2 < q) := by omega
        have hEu : (2 = (restL l).length ∧ (restL l).length ≤ 2) ∨ (2 = 2 ∧ 2 < (restL l).length) := by rw [HRL.out, ← HQ.out]; exact hE
        have g1 := slice_h (P := Tryz.prog) (s := R) Tryz.underlying9 (2 : Int) 2 (by first | rfl | omega) (by omega)
        have g2 := slice_l (P := Tryz.prog) (s := R) Tryz.underlying9 (2 : Int) 2 (by first | rfl | omega) (by omega)
        have hez : (R.extract 0 2).size = 2 := by rw [ByteArray.size_extract]; omega
        have g3 := fun wx => run_string_add_sum (P := Tryz.prog) wx (R.extract 0 2) ⟨#[48, 48]⟩ (by rw [hez, hz00]; omega)
        have hI1 : IsBits (R.extract 0 2 ++ ⟨#[48, 48]⟩) ((restL l).take 2 ++ [false, false]) := by
          have := isBits_append (isBits_extract HRESTB.out 0 2) (show IsBits ⟨#[48, 48]⟩ [false, false] from rfl)
          simpa using this
        have hI2 : IsBits (R.extract 2 q) ((restL l).drop 2) := by
          have := isBits_extract HRESTB.out 2 q
          rw [List.take_of_length_le (by rw [List.length_drop, HRL.out, ← HQ.out]; exact Nat.le_refl _), frac_drop _ _ hEu] at this
          exact this
        have hl2 : ((restL l).drop 2).length ≤ 64 := by rw [List.length_drop, HRL.out]; omega
        rw [hRz] at g2
        generalize R.extract 2 q = F at *
        have hXz : (R.extract 0 2 ++ ⟨#[48, 48]⟩).size = 2 + 2 := by rw [ByteArray.size_append, hez, hz00]
        generalize R.extract 0 2 ++ ⟨#[48, 48]⟩ = X at *
        have g4 := slice_h (P := Tryz.prog) (s := X) Tryz.underlying9 2 2 rfl (by omega)
        have hI3 : IsBits (X.extract 0 2) ((restL l ++ noughts 2).take 2) := by
          have := isBits_extract hI1 0 2
          rw [List.drop_zero, exp_take _ _ hEu] at this
          exact this
        have hl3 : ((restL l ++ noughts 2).take 2).length ≤ 64 := by rw [List.length_take]; omega
        have k5 := number_any _ _ hI3 hl3
        have k6 := number_any _ _ hI2 hl2
        rw [show numOf ((restL l ++ noughts 2).take 2) = expL l from rfl] at k5
        rw [show numOf ((restL l).drop 2) = fracL l from rfl] at k6
        have hex : expL l < 4 := by
          have := numOf_lt ((restL l ++ noughts 2).take 2)
          rw [show ((restL l ++ noughts 2).take 2).length = 2 by simp] at this
          exact this
        have HF : Hid (Below w2.heap.size w2 wc) := HBB.out
        generalize X.extract 0 2 = Y at *
        obtain ⟨ee, hee⟩ : ∃ ee, ee = expL l := ⟨_, rfl⟩
        obtain ⟨ff, hff⟩ : ∃ ff, ff = fracL l := ⟨_, rfl⟩
        rw [← hee] at k5 hex
        rw [← hff] at k6
        have HEF : Hid (ee = expL l ∧ ff = fracL l) := ⟨hee, hff⟩
        have HE : Hid ((2 = q ∧ q ≤ 2) ∨ (2 = 2 ∧ 2 < q)) := hE
        have hqb : q ≤ 62 := by omega
        clear hE hEu hI1 hI2 hI3 hl2 hl3 hz00 hez hee hff hq
        cases o
        · go_wp2_with fail
          refine (k5 _).mono ?_
          rintro e w5 ⟨rfl, rfl⟩
          go_wp2_with fail
          refine (k6 _).mono ?_
          rintro e w6 ⟨rfl, hw6⟩
          have R6 : w6.heap[m]? = some (.cells #[.bool b, .bool false, .int .i64 r, .int .i64 (-(r : Int)), .int .i64 (2 : Int), .int .i64 ee, .int .i64 ((q : Int) - 2), .int .u64 0] 64 (0, 0)) := by
            rw [hw6]
            refine (rowset (rowset (rowset (rowset (rowset HROW.out 3 _) 4 _) 4 _) 5 _) 6 _).trans ?_
            simp only [List.setIfInBounds_toArray, List.set_cons_zero, List.set_cons_succ]
          have B6 : Below w2.heap.size w2 w6 := by rw [hw6]; exact (cset (cset (cset (cset (cset HBB.out hm 3 _) hm 4 _) hm 4 _) hm 5 _) hm 6 _)
          have HB6 : Hid (Below w2.heap.size w2 w6) := B6
          have HR6 : Hid _ := R6
          have d0 := rowcell R6 0
          have d1 := rowcell R6 1
          have d2 := rowcell R6 2
          have d3 := rowcell R6 3
          have d4 := rowcell R6 4
          have d5 := rowcell R6 5
          have d6 := rowcell R6 6
          have d7 := rowcell R6 7
          have df := rowfree R6
          simp only [List.getElem?_toArray, List.getElem?_cons_zero, List.getElem?_cons_succ] at d0 d1 d2 d3 d4 d5 d6 d7
          have R0 := (B6.block _ z3).trans RB.out
          have b0 := rowcell R0 0
          have b1 := rowcell R0 1
          have b2 := rowcell R0 2
          have b3 := rowcell R0 3
          have b4 := rowcell R0 4
          have b5 := rowcell R0 5
          have b6 := rowcell R0 6
          have b7 := rowcell R0 7
          have bf := rowfree R0
          simp only [List.getElem?_toArray, List.getElem?_cons_zero, List.getElem?_cons_succ] at b0 b1 b2 b3 b4 b5 b6 b7
          clear R0 hw6 R6 B6 c0 c1 c2 c3 c4 c5 c6 c7 cf
          go_wp2
          have e1 : min q 2 = 2 := by omega
          have e2 : (q : Int) - 2 = ((q - 2 : Nat) : Int) := by omega
          have hv : fdV (x.testBit (n - 1)) l = .agg #[.bool b, .bool false, .int .i64 r, .int .i64 (-(r : Int)), .int .i64 2, .int .i64 ee, .int .i64 ((q - 2 : Nat) : Int), .int .u64 ff] := by
            unfold fdV regL
            rw [← HBX.out, ← HO.out, ← HR.out, HRL.out, ← HQ.out, ← HEF.out.1, ← HEF.out.2, e1]
            rfl
          refine bodyPost_ret (v := .tuple #[.agg #[.bool b, .bool false, .int .i64 r, .int .i64 (-(r : Int)), .int .i64 2, .int .i64 ee, .int .i64 ((q - 2 : Nat) : Int), .int .u64 ff], .int .i64 0]) (by simp [results, Tryz.results108, go_sem, b0, b1, b2, b3, b4, b5, b6, b7, hne1, hne2, e2]) rfl (hQ.out _ _ ⟨by rw [hv], ?_⟩)
          have hmw : w.heap.size ≤ m := by omega
          exact cset8 (cset (cthen HBW.out HB6.out) hmw _ _) (Nat.le_refl _)
        · go_wp2_with fail
          refine (k5 _).mono ?_
          rintro e w5 ⟨rfl, rfl⟩
          go_wp2_with fail
          refine (k6 _).mono ?_
          rintro e w6 ⟨rfl, hw6⟩
          have R6 : w6.heap[m]? = some (.cells #[.bool b, .bool true, .int .i64 r, .int .i64 ((r : Int) - 1), .int .i64 (2 : Int), .int .i64 ee, .int .i64 ((q : Int) - 2), .int .u64 0] 64 (0, 0)) := by
            rw [hw6]
            refine (rowset (rowset (rowset (rowset (rowset (rowset HROW.out 3 _) 3 _) 4 _) 4 _) 5 _) 6 _).trans ?_
            simp only [List.setIfInBounds_toArray, List.set_cons_zero, List.set_cons_succ]
          have B6 : Below w2.heap.size w2 w6 := by rw [hw6]; exact (cset (cset (cset (cset (cset (cset HBB.out hm 3 _) hm 3 _) hm 4 _) hm 4 _) hm 5 _) hm 6 _)
          have HB6 : Hid (Below w2.heap.size w2 w6) := B6
          have HR6 : Hid _ := R6
          have d0 := rowcell R6 0
          have d1 := rowcell R6 1
          have d2 := rowcell R6 2
          have d3 := rowcell R6 3
          have d4 := rowcell R6 4
          have d5 := rowcell R6 5
          have d6 := rowcell R6 6
          have d7 := rowcell R6 7
          have df := rowfree R6
          simp only [List.getElem?_toArray, List.getElem?_cons_zero, List.getElem?_cons_succ] at d0 d1 d2 d3 d4 d5 d6 d7
          have R0 := (B6.block _ z3).trans RB.out
          have b0 := rowcell R0 0
          have b1 := rowcell R0 1
          have b2 := rowcell R0 2
          have b3 := rowcell R0 3
          have b4 := rowcell R0 4
          have b5 := rowcell R0 5
          have b6 := rowcell R0 6
          have b7 := rowcell R0 7
          have bf := rowfree R0
          simp only [List.getElem?_toArray, List.getElem?_cons_zero, List.getElem?_cons_succ] at b0 b1 b2 b3 b4 b5 b6 b7
          clear R0 hw6 R6 B6 c0 c1 c2 c3 c4 c5 c6 c7 cf
          go_wp2
          have e1 : min q 2 = 2 := by omega
          have e2 : (q : Int) - 2 = ((q - 2 : Nat) : Int) := by omega
          have hv : fdV (x.testBit (n - 1)) l = .agg #[.bool b, .bool true, .int .i64 r, .int .i64 ((r : Int) - 1), .int .i64 2, .int .i64 ee, .int .i64 ((q - 2 : Nat) : Int), .int .u64 ff] := by
            unfold fdV regL
            rw [← HBX.out, ← HO.out, ← HR.out, HRL.out, ← HQ.out, ← HEF.out.1, ← HEF.out.2, e1]
            rfl
          refine bodyPost_ret (v := .tuple #[.agg #[.bool b, .bool true, .int .i64 r, .int .i64 ((r : Int) - 1), .int .i64 2, .int .i64 ee, .int .i64 ((q - 2 : Nat) : Int), .int .u64 ff], .int .i64 0]) (by simp [results, Tryz.results108, go_sem, b0, b1, b2, b3, b4, b5, b6, b7, hne1, hne2, e2]) rfl (hQ.out _ _ ⟨by rw [hv], ?_⟩)
          have hmw : w.heap.size ≤ m := by omega
          exact cset8 (cset (cthen HBW.out HB6.out) hmw _ _) (Nat.le_refl _)
    · have hrn2 : decide ((r : Int) < ((n - 1 : Nat) : Int)) = false := decide_eq_false (by omega)
      have hR0 : restL l = [] := List.eq_nil_of_length_eq_zero (by rw [HRL.out]; omega)
      have HR0 : Hid (restL l = []) := hR0
      have k5 : ∀ w, Calls Tryz.prog 110 #[.string ((⟨#[48, 48]⟩ : ByteArray).extract 0 2)] w fun e w' => e = .returned (.int .u64 0) ∧ w' = w :=
        fun w => number_any _ [false, false] (isBits_extract (show IsBits ⟨#[48, 48]⟩ [false, false] from rfl) 0 2) (by decide) w
      have k6 : ∀ w, Calls Tryz.prog 110 #[.string ⟨#[]⟩] w fun e w' => e = .returned (.int .u64 0) ∧ w' = w :=
        fun w => number_any ⟨#[]⟩ [] (show IsBits ⟨#[]⟩ [] from rfl) (by decide) w
      clear hR0
      cases o
      · go_wp2_with fail
        refine (k5 _).mono ?_
        rintro e w5 ⟨rfl, rfl⟩
        go_wp2_with fail
        refine (k6 _).mono ?_
        rintro e w6 ⟨rfl, hw6⟩
        have R6 : w6.heap[m]? = some (.cells #[.bool b, .bool false, .int .i64 r, .int .i64 (-(r : Int)), .int .i64 0, .int .i64 0, .int .i64 0, .int .u64 0] 64 (0, 0)) := by
          rw [hw6]
          refine (rowset (rowset (rowset (rowset HROW.out 3 _) 4 _) 5 _) 6 _).trans ?_
          simp only [List.setIfInBounds_toArray, List.set_cons_zero, List.set_cons_succ]
        have B6 : Below w2.heap.size w2 w6 := by rw [hw6]; exact (cset (cset (cset (cset HBB.out hm 3 _) hm 4 _) hm 5 _) hm 6 _)
        have HB6 : Hid (Below w2.heap.size w2 w6) := B6
        have HR6 : Hid _ := R6
        have d0 := rowcell R6 0
        have d1 := rowcell R6 1
        have d2 := rowcell R6 2
        have d3 := rowcell R6 3
        have d4 := rowcell R6 4
        have d5 := rowcell R6 5
        have d6 := rowcell R6 6
        have d7 := rowcell R6 7
        have df := rowfree R6
        simp only [List.getElem?_toArray, List.getElem?_cons_zero, List.getElem?_cons_succ] at d0 d1 d2 d3 d4 d5 d6 d7
        have R0 := (B6.block _ z3).trans RB.out
        have b0 := rowcell R0 0
        have b1 := rowcell R0 1
        have b2 := rowcell R0 2
        have b3 := rowcell R0 3
        have b4 := rowcell R0 4
        have b5 := rowcell R0 5
        have b6 := rowcell R0 6
        have b7 := rowcell R0 7
        have bf := rowfree R0
        simp only [List.getElem?_toArray, List.getElem?_cons_zero, List.getElem?_cons_succ] at b0 b1 b2 b3 b4 b5 b6 b7
        clear R0 hw6 R6 B6 c0 c1 c2 c3 c4 c5 c6 c7 cf
        go_wp2
        have hv : fdV (x.testBit (n - 1)) l = .agg #[.bool b, .bool false, .int .i64 r, .int .i64 (-(r : Int)), .int .i64 0, .int .i64 0, .int .i64 0, .int .u64 0] := by
          unfold fdV regL expL fracL
          rw [← HBX.out, ← HO.out, ← HR.out, HR0.out]
          rfl
        refine bodyPost_ret (v := .tuple #[.agg #[.bool b, .bool false, .int .i64 r, .int .i64 (-(r : Int)), .int .i64 0, .int .i64 0, .int .i64 0, .int .u64 0], .int .i64 0]) (by simp [results, Tryz.results108, go_sem, b0, b1, b2, b3, b4, b5, b6, b7, hne1, hne2, numOf]) rfl (hQ.out _ _ ⟨by rw [hv], ?_⟩)
        have hmw : w.heap.size ≤ m := by omega
        exact cset8 (cset (cthen HBW.out HB6.out) hmw _ _) (Nat.le_refl _)
      · go_wp2_with fail
        refine (k5 _).mono ?_
        rintro e w5 ⟨rfl, rfl⟩
        go_wp2_with fail
        refine (k6 _).mono ?_
        rintro e w6 ⟨rfl, hw6⟩
        have R6 : w6.heap[m]? = some (.cells #[.bool b, .bool true, .int .i64 r, .int .i64 ((r : Int) - 1), .int .i64 0, .int .i64 0, .int .i64 0, .int .u64 0] 64 (0, 0)) := by
          rw [hw6]
          refine (rowset (rowset (rowset (rowset (rowset HROW.out 3 _) 3 _) 4 _) 5 _) 6 _).trans ?_
          simp only [List.setIfInBounds_toArray, List.set_cons_zero, List.set_cons_succ]
        have B6 : Below w2.heap.size w2 w6 := by rw [hw6]; exact (cset (cset (cset (cset (cset HBB.out hm 3 _) hm 3 _) hm 4 _) hm 5 _) hm 6 _)
        have HB6 : Hid (Below w2.heap.size w2 w6) := B6
        have HR6 : Hid _ := R6
        have d0 := rowcell R6 0
        have d1 := rowcell R6 1
        have d2 := rowcell R6 2
        have d3 := rowcell R6 3
        have d4 := rowcell R6 4
        have d5 := rowcell R6 5
        have d6 := rowcell R6 6
        have d7 := rowcell R6 7
        have df := rowfree R6
        simp only [List.getElem?_toArray, List.getElem?_cons_zero, List.getElem?_cons_succ] at d0 d1 d2 d3 d4 d5 d6 d7
        have R0 := (B6.block _ z3).trans RB.out
        have b0 := rowcell R0 0
        have b1 := rowcell R0 1
        have b2 := rowcell R0 2
        have b3 := rowcell R0 3
        have b4 := rowcell R0 4
        have b5 := rowcell R0 5
        have b6 := rowcell R0 6
        have b7 := rowcell R0 7
        have bf := rowfree R0
        simp only [List.getElem?_toArray, List.getElem?_cons_zero, List.getElem?_cons_succ] at b0 b1 b2 b3 b4 b5 b6 b7
        clear R0 hw6 R6 B6 c0 c1 c2 c3 c4 c5 c6 c7 cf
        go_wp2
        have hv : fdV (x.testBit (n - 1)) l = .agg #[.bool b, .bool true, .int .i64 r, .int .i64 ((r : Int) - 1), .int .i64 0, .int .i64 0, .int .i64 0, .int .u64 0] := by
          unfold fdV regL expL fracL
          rw [← HBX.out, ← HO.out, ← HR.out, HR0.out]
          rfl
        refine bodyPost_ret (v := .tuple #[.agg #[.bool b, .bool true, .int .i64 r, .int .i64 ((r : Int) - 1), .int .i64 0, .int .i64 0, .int .i64 0, .int .u64 0], .int .i64 0]) (by simp [results, Tryz.results108, go_sem, b0, b1, b2, b3, b4, b5, b6, b7, hne1, hne2, numOf]) rfl (hQ.out _ _ ⟨by rw [hv], ?_⟩)
        have hmw : w.heap.size ≤ m := by omega
        exact cset8 (cset (cthen HBW.out HB6.out) hmw _ _) (Nat.le_refl _)
end Go.Proofs.YtheliihkkoohnaaGreat

namespace Go.Proofs.YtheliihkkoohnaaGreat
open Go.ChangeShapes Go.WideShapes Go.ChangeAt Go.RowKit
set_option linter.unusedVariables false
set_option linter.unusedSimpArgs false
set_option maxRecDepth 100000

theorem cset4 {a W : World} {m : Nat} {v0 v1 v2 v3 : Value} (h : Below a.heap.size a W) (hb : a.heap.size ≤ m) :
    Below a.heap.size a ((((W.setCell ⟨m, 0, none⟩ v0).setCell ⟨m, 1, none⟩ v1).setCell ⟨m, 2, none⟩ v2).setCell ⟨m, 3, none⟩ v3) :=
  cset (cset (cset (cset h hb 0 v0) hb 1 v1) hb 2 v2) hb 3 v3
/-! ### Decode -/
def numV (k : Int) (neg : Bool) (s : Int) (f : Nat) : Value := .agg #[.int .i64 k, .bool neg, .int .i64 s, .int .u64 f]
theorem decodes6_other (n x : Nat) (hn : Wd n) (hk : kindOf n (x % 2 ^ n) ≠ 1) (w : World) :
    Calls Tryz.prog 72 #[.int .i64 n, .int .u64 x] w fun e w' => e = .returned (.tuple #[numV (kindOf n (x % 2 ^ n)) false 0 0, .int .i64 0]) ∧ Below w.heap.size w w' := by
  have k1 := rkind_ok n x hn
  generalize kindOf n (x % 2 ^ n) = k at *
  clear hn
  refine cps fun Q hQ => ?_
  have hd : (k == 1) = false := beq_eq_false_iff_ne.2 hk
  go_enter Tryz.func72, Tryz.ntmps72
  go_wp2_with (go_at_call 107; refine (k1 _).mono ?_; rintro e w1 ⟨rfl, hb1⟩; have hc := fun b o h => hb1.cell (p := ⟨b, o, none⟩) h; have hf := fun b o h => hb1.frozen (p := ⟨b, o, none⟩) h; have hz := hb1.size; simp at hz; have hz' : w.heap.size < w1.heap.size := hz)
  refine bodyPost_ret (v := .tuple #[numV k false 0 0, .int .i64 0]) (by simp [results, Tryz.results72, go_sem, hc, hz', numV]) rfl (hQ.out _ _ ⟨rfl, ?_⟩)
  exact cset4 (cthen (cmore (Below.refl _ _) _) hb1) (Nat.le_refl _)
def strLen (v : Value) : Nat := match v with | .string S => S.size | _ => 0
theorem decodes6_real (n x : Nat) (hn : Wd n) (hx : x < 2 ^ 64) (hk : kindOf n (x % 2 ^ n) = 1) (w : World) :
    Calls Tryz.prog 72 #[.int .i64 n, .int .u64 x] w fun e w' => e = .returned (.tuple #[numV 1 (x.testBit (n - 1)) (scaleL (strS n x)) (wordL (strS n x)), .int .i64 0]) ∧ Below w.heap.size w w' := by
  have k1 := rkind_ok n x hn
  rw [hk] at k1
  have k2 := split6_real n x hn hx hk
  have hw := wd_le hn
  have hlen := strS_length n x
  have hfl : bitsOf (fracL (strS n x)) ((restL (strS n x)).length - 2) = (restL (strS n x)).drop 2 := by
    have := bitsOf_numOf ((restL (strS n x)).drop 2)
    rw [List.length_drop] at this; exact this
  have hfb : (restL (strS n x)).length - 2 ≤ 61 := by rw [restL_length, hlen]; omega
  have hrg : -64 ≤ regL (strS n x) ∧ regL (strS n x) ≤ 64 := by
    have := runL_le (strS n x)
    unfold regL; split <;> omega
  have hex : expL (strS n x) < 4 := by
    have := numOf_lt ((restL (strS n x) ++ noughts 2).take 2)
    rw [show ((restL (strS n x) ++ noughts 2).take 2).length = 2 by simp] at this
    exact this
  have hwl : wordL (strS n x) = numOf (true :: ((restL (strS n x)).drop 2 ++ noughts (63 - ((restL (strS n x)).length - 2)))) := by
    unfold wordL
    rw [List.take_append, List.take_of_length_le (by rw [List.length_drop]; omega), take_noughts _ _ (by omega), List.length_drop]
  unfold fdV at k2
  unfold scaleL at *
  clear hn hx hk hlen hw
  generalize onesL (strS n x) = o at *
  generalize runL (strS n x) = r at *
  generalize regL (strS n x) = reg at *
  generalize expL (strS n x) = ex at *
  generalize fracL (strS n x) = fr at *
  generalize wordL (strS n x) = wd at *
  generalize hu : (restL (strS n x)).drop 2 = u at *
  generalize hub : (restL (strS n x)).length - 2 = fb at *
  generalize min (restL (strS n x)).length 2 = eb at *
  have hul : u.length = fb := by rw [← hu, ← hub, List.length_drop]
  have HU : Hid (bitsOf fr fb = u ∧ u.length = fb ∧ wd = numOf (true :: (u ++ noughts (63 - fb)))) := ⟨hfl, hul, hwl⟩
  clear hfl hwl hu hub hul
  refine cps fun Q hQ => ?_
  generalize x.testBit (n - 1) = b at *
  go_enter Tryz.func72, Tryz.ntmps72
  go_wp2_with (first
    | (go_at_call 107; refine (k1 _).mono ?_; rintro e w1 ⟨rfl, hb1⟩)
    | (go_at_call 108; refine (k2 _).mono ?_; rintro e w2 ⟨rfl, hb2⟩; have HB1 : Hid (Below _ _ _) := hb1; have HB2 : Hid (Below _ _ _) := hb2; clear hb1 hb2))
  refine (text_any fr fb (by omega) _).mono ?_
  rintro e w3 ⟨t, rfl, ht, hb3⟩
  have z1 : w.heap.size < w1.heap.size := by have := HB1.out.size; simp at this; omega
  have z2 := HB2.out.size
  have RX := (hb3.block (w2.heap.size + 1) (by simp)).trans (rownew' _ _ _ _ (by simp))
  have R0 := (hb3.block w.heap.size (by simp; omega)).trans ((Below.heap_alloc (w2.alloc _) _ _ (by simp; omega)).trans ((Below.heap_alloc w2 _ _ (by omega)).trans ((HB2.out.block _ z1).trans ((HB1.out.block _ (by simp)).trans (rownew w _ _)))))
  have BW : Below w.heap.size w w3 := cthen (cmore (cmore (cthen (cthen (cmore (Below.refl _ _) _) HB1.out) HB2.out) _) _) hb3
  have HBW : Hid (Below w.heap.size w w3) := BW
  have x0 := rowcell RX 0
  have x1 := rowcell RX 1
  have x2 := rowcell RX 2
  have x3 := rowcell RX 3
  have xf := rowfree RX
  have b0 := rowcell R0 0
  have b1 := rowcell R0 1
  have b2 := rowcell R0 2
  have b3 := rowcell R0 3
  have bf := rowfree R0
  simp only [List.getElem?_toArray, List.getElem?_cons_zero, List.getElem?_cons_succ] at x0 x1 x2 x3 b0 b1 b2 b3
  have hne1 : ¬ w2.heap.size + 1 = w.heap.size := by omega
  have hne2 : ¬ w.heap.size = w2.heap.size + 1 := by omega
  have hmw : w.heap.size ≤ w2.heap.size + 1 := by omega
  have htz := isBits_size ht
  rw [HU.out.1, HU.out.2.1] at htz
  have HT : Hid (IsBits t u) := by rw [HU.out.1] at ht; exact ht
  have h49 : (⟨#[49]⟩ : ByteArray).size = 1 := rfl
  have g1 := fun wx => run_string_add_sum (P := Tryz.prog) wx ⟨#[49]⟩ t (by rw [htz, h49]; omega)
  have h1z : (⟨#[49]⟩ ++ t : ByteArray).size = 1 + fb := by rw [ByteArray.size_append, htz, h49]
  have h1b : IsBits (⟨#[49]⟩ ++ t) (true :: u) := isBits_append (show IsBits ⟨#[49]⟩ [true] from rfl) HT.out
  have H1B : Hid (IsBits (⟨#[49]⟩ ++ t) (true :: u)) := h1b
  clear RX R0 BW HB1 HB2 hb3 z1 z2 k1 k2 ht h1b h49
  generalize ⟨#[49]⟩ ++ t = S1 at *
  go_wp2
  go_loop [11] (fun sv => ∃ (S : ByteArray) (j : Nat), sv = .string S ∧ S.size = 1 + fb + j ∧ 1 + fb + j ≤ 64 ∧ Hid (IsBits S (true :: (u ++ noughts j)))) (fun sv => 64 - strLen sv)
  case atStart => exact ⟨S1, 0, rfl, h1z, by omega, by show IsBits _ _; simpa using H1B.out⟩
  case round =>
    obtain ⟨S, j, rfl, hS, hj, hI⟩ := hrel
    have h48 : (⟨#[48]⟩ : ByteArray).size = 1 := rfl
    by_cases hlt : 1 + fb + j < 64
    · have g2 := fun wx => run_string_add_sum (P := Tryz.prog) wx S ⟨#[48]⟩ (by rw [hS, h48]; omega)
      have h2z : (S ++ ⟨#[48]⟩ : ByteArray).size = 1 + fb + (j + 1) := by rw [ByteArray.size_append, hS, h48]; omega
      have H2B : Hid (IsBits (S ++ ⟨#[48]⟩) (true :: (u ++ noughts (j + 1)))) := by
        have := isBits_append hI.out (show IsBits ⟨#[48]⟩ [false] from rfl)
        rw [show true :: (u ++ noughts j) ++ [false] = true :: (u ++ noughts (j + 1)) by simp [noughts, List.replicate_succ']] at this
        exact this
      generalize S ++ ⟨#[48]⟩ = S2 at *
      clear h48
      go_wp2
      go_round
      case rel => exact ⟨S2, j + 1, rfl, h2z, by omega, H2B.out⟩
      case measure => simp [strLen, h2z, hS]; omega
    · have hj2 : j = 63 - fb := by omega
      have hl : (true :: (u ++ noughts j)).length ≤ 64 := by rw [← isBits_size hI.out, hS]; omega
      have k5 := number_any S _ hI.out hl
      rw [show numOf (true :: (u ++ noughts j)) = wd by rw [hj2]; exact HU.out.2.2.symm] at k5
      have hS64 : S.size = 64 := by omega
      clear hS hj2 hl hI h48 hj hlt
      go_wp2_with (go_at_call 110; refine (k5 _).mono ?_; rintro e w6 ⟨rfl, rfl⟩)
      refine bodyPost_ret (v := .tuple #[numV 1 b (4 * reg + ex) wd, .int .i64 0]) (by simp [results, Tryz.results72, go_sem, b0, b1, b2, b3, x0, x1, x2, x3, hne1, hne2, numV]) rfl (hQ.out _ _ ⟨rfl, ?_⟩)
      exact cset4 (cset HBW.out hmw _ _) (Nat.le_refl _)
end Go.Proofs.YtheliihkkoohnaaGreat

namespace Go.Proofs.YtheliihkkoohnaaGreat
open Go.ChangeShapes Go.WideShapes Go.ChangeAt Go.RowKit
set_option linter.unusedVariables false
set_option linter.unusedSimpArgs false
set_option maxRecDepth 100000

theorem decode6_other (n x : Nat) (hn : Wd n) (hk : kindOf n (x % 2 ^ n) ≠ 1) (w : World) :
    Calls Tryz.prog 39 #[.int .i64 n, .int .u64 x] w fun e w' => e = .returned (numV (kindOf n (x % 2 ^ n)) false 0 0) ∧ Below w.heap.size w w' := by
  have k1 := decodes6_other n x hn hk
  unfold numV at *
  refine cps fun Q hQ => ?_
  generalize kindOf n (x % 2 ^ n) = k at *
  go_enter Tryz.func39, Tryz.ntmps39
  go_wp2_with (go_at_call 72; refine (k1 _).mono ?_; rintro e w1 ⟨rfl, hb1⟩; have HB1 : Hid (Below _ _ _) := hb1; have R0 := (hb1.block w.heap.size (by simp)).trans (rownew w _ _); have b0 := rowcell R0 0; have b1 := rowcell R0 1; have b2 := rowcell R0 2; have b3 := rowcell R0 3; have bf := rowfree R0; simp only [List.getElem?_toArray, List.getElem?_cons_zero, List.getElem?_cons_succ] at b0 b1 b2 b3; have z1 : w.heap.size < w1.heap.size := (by have := hb1.size; simp at this; omega); have hne1 : ¬ w.heap.size = w1.heap.size := (by omega); have hne2 : ¬ w1.heap.size = w.heap.size := (by omega); clear hb1 R0)
  refine bodyPost_ret (v := .agg #[.int .i64 k, .bool false, .int .i64 0, .int .u64 0]) (by simp [results, Tryz.results39, go_sem, b0, b1, b2, b3, hne1, hne2, z1]) rfl (hQ.out _ _ ⟨rfl, ?_⟩)
  exact cmore (cset4 (cthen (cmore (Below.refl _ _) _) HB1.out) (Nat.le_refl _)) _
theorem decode6_real (n x : Nat) (hn : Wd n) (hx : x < 2 ^ 64) (hk : kindOf n (x % 2 ^ n) = 1) (w : World) :
    Calls Tryz.prog 39 #[.int .i64 n, .int .u64 x] w fun e w' => e = .returned (numV 1 (x.testBit (n - 1)) (scaleL (strS n x)) (wordL (strS n x))) ∧ Below w.heap.size w w' := by
  have k1 := decodes6_real n x hn hx hk
  unfold numV at *
  clear hn hx hk
  refine cps fun Q hQ => ?_
  generalize scaleL (strS n x) = s at *
  generalize wordL (strS n x) = f at *
  generalize x.testBit (n - 1) = b at *
  go_enter Tryz.func39, Tryz.ntmps39
  go_wp2_with (go_at_call 72; refine (k1 _).mono ?_; rintro e w1 ⟨rfl, hb1⟩; have HB1 : Hid (Below _ _ _) := hb1; have R0 := (hb1.block w.heap.size (by simp)).trans (rownew w _ _); have b0 := rowcell R0 0; have b1 := rowcell R0 1; have b2 := rowcell R0 2; have b3 := rowcell R0 3; have bf := rowfree R0; simp only [List.getElem?_toArray, List.getElem?_cons_zero, List.getElem?_cons_succ] at b0 b1 b2 b3; have z1 : w.heap.size < w1.heap.size := (by have := hb1.size; simp at this; omega); have hne1 : ¬ w.heap.size = w1.heap.size := (by omega); have hne2 : ¬ w1.heap.size = w.heap.size := (by omega); clear hb1 R0)
  refine bodyPost_ret (v := .agg #[.int .i64 1, .bool b, .int .i64 s, .int .u64 f]) (by simp [results, Tryz.results39, go_sem, b0, b1, b2, b3, hne1, hne2, z1]) rfl (hQ.out _ _ ⟨rfl, ?_⟩)
  exact cmore (cset4 (cthen (cmore (Below.refl _ _) _) HB1.out) (Nat.le_refl _)) _
theorem regime6_any (s : Int) (h1 : -2147483648 ≤ s) (h2 : s ≤ 2147483648) (w : World) :
    Calls Tryz.prog 128 #[.int .i64 s] w fun e w' => e = .returned (.int .i64 (s / 4)) ∧ w' = w := by
  refine cps fun Q hQ => ?_
  have hT : (0 ≤ s → s.tdiv 4 = s / 4) ∧ (s < 0 → s.tdiv 4 = -((-s) / 4)) := ⟨fun h => Int.tdiv_eq_ediv_of_nonneg h, fun h => by
    have := Int.neg_tdiv (-s) 4
    rw [Int.neg_neg] at this
    rw [this, Int.tdiv_eq_ediv_of_nonneg (by omega)]⟩
  obtain ⟨T, hTT⟩ : ∃ T, T = s.tdiv 4 := ⟨_, rfl⟩
  rw [← hTT] at hT
  have hTb : -536870912 ≤ T ∧ T ≤ 536870912 := by omega
  have e0 : IntKind.i64.wrap (s.tdiv 4) = T := by rw [← hTT]; exact wrapI (by omega)
  have e00 : s.tdiv 4 = T := hTT.symm
  have e2 : IntKind.i64.wrap (4 * T) = 4 * T := wrapI (by omega)
  clear hTT
  go_enter Tryz.func128, Tryz.ntmps128
  go_wp2
  all_goals exact hQ.out _ _ ⟨ret_i (by omega), rfl⟩
theorem chars_rep (k : Nat) (b : Bool) : chars (List.replicate (k + 1) b) = chars (List.replicate k b) ++ [.int .u8 (bitByte b).toNat] := by
  rw [List.replicate_succ']; simp [chars]
set_option maxHeartbeats 1000000 in
theorem head6_any (s : Int) (h1 : -256 ≤ s) (h2 : s ≤ 255) (w : World) :
    Calls Tryz.prog 113 #[.int .i64 s] w fun e w' => ∃ t, e = .returned (.string t) ∧ IsBits t (headK (s / 4) ++ bitsOf (s % 4).toNat 2) ∧ Below w.heap.size w w' := by
  obtain ⟨i0, hi, hz0, hz1, hz2⟩ := info_parts infoU8
  have k1 := regime6_any s (by omega) (by omega)
  obtain ⟨k, hk⟩ : ∃ k, k = s / 4 := ⟨_, rfl⟩
  obtain ⟨d, hd⟩ : ∃ d, d = (s % 4).toNat := ⟨_, rfl⟩
  have e1 : s - 4 * k = (d : Int) := by omega
  have hd4 : d < 4 := by omega
  have hkb : -64 ≤ k ∧ k ≤ 63 := by omega
  rw [← hk] at k1
  have e2 : IntKind.u64.wrap (s - 4 * k) = (d : Int) := by rw [e1, IntKind.wrap_u64]; omega
  have ed : IntKind.u64.wrap (IntKind.i64.wrap (s - IntKind.i64.wrap (4 * k))) = (d : Int) := by rw [show IntKind.i64.wrap (4 * k) = 4 * k from wrapI (by omega), show IntKind.i64.wrap (s - 4 * k) = s - 4 * k from wrapI (by omega)]; exact e2
  refine cps fun Q hQ => ?_
  rw [← hk, ← hd] at hQ
  clear hk hd
  by_cases hk0 : 0 ≤ k
  · obtain ⟨K, rfl⟩ := Int.eq_ofNat_of_zero_le hk0
    have HK : Hid (headK (K : Nat) = List.replicate (K + 1) true ++ [false]) := by show _ = _; unfold headK; rw [if_pos (by omega)]; rfl
    go_enter Tryz.func113, Tryz.ntmps113
    go_wp2_with (go_at_call 128; refine (k1 _).mono ?_; rintro e w1 ⟨rfl, hw⟩; rw [hw]; clear hw w1)
    go_loopw [4, 5] (fun v i wr => ∃ j : Nat, j ≤ K + 1 ∧ i = .int .i64 j ∧ Hid (wr.ownsRow w.heap.size 5 1 v j (chars (List.replicate j true))) ∧ Hid (Below w.heap.size w wr)) (fun _ i _ => K + 1 - (intOf i).toNat)
    case atStart => exact ⟨0, Nat.zero_le _, rfl, World.ownsRow_nil _ _ _ _, Below.refl _ _⟩
    case round =>
      rename World => wr
      obtain ⟨j, hj, rfl, hown, hb⟩ := hrel
      have hs := hb.out.size
      by_cases hlt : j < K + 1
      · have hlt2 : decide ((j : Int) ≤ (K : Int)) = true := decide_eq_true (by omega)
        go_wp2_with (at_builtin; go_must (refine append1 rfl _ _ 160 rfl w.heap.size 5 i0 (.int .u8 0) 1 Tryz.underlying160 hi hz0 hz1 hz2 rfl _ _ _ hown.out rfl rfl rfl (by omega) (by omega) hs ?_); intro v' w5 hown1 hb1 hne1 _; have HO5 : Hid (World.ownsRow _ _ _ _ _ _ _) := hown1; have HB5 : Hid (Below _ _ _) := hb1; clear hown1 hb1 hne1)
        go_roundw
        case rel => exact ⟨j + 1, by omega, by go_num, by show World.ownsRow _ _ _ _ _ _ _; rw [chars_rep]; exact HO5.out, hb.out.trans HB5.out⟩
        case measure => simp [intOf]; omega
      · have hjn : j = K + 1 := by omega
        subst hjn
        have hlt2 : decide (((K + 1 : Nat) : Int) ≤ (K : Int)) = false := decide_eq_false (by omega)
        have hlt3 : decide ((K : Int) < 0) = false := decide_eq_false (by omega)
        have hlt4 : decide ((0 : Int) ≤ (K : Int)) = true := decide_eq_true (by omega)
        go_wp2
        refine wp_loop_rounds 1 ?_
        rw [rounds_succ]
        go_wp2_with (at_builtin; go_must (refine append1 rfl _ _ 160 rfl w.heap.size 5 i0 (.int .u8 0) 1 Tryz.underlying160 hi hz0 hz1 hz2 rfl _ _ _ hown.out rfl rfl rfl (by omega) (by omega) hs ?_); intro v' w5 hown1 hb1 hne1 _; have HO5 : Hid (World.ownsRow _ _ _ _ _ _ _) := hown1; have HB5 : Hid (Below _ _ _) := hb1; clear hown1 hb1 hne1)
        obtain ⟨L, hL⟩ : ∃ L, L = headK (K : Int) := ⟨_, rfl⟩
        have hLl : L.length ≤ 66 := by rw [hL, HK.out]; simp; omega
        have hO : w5.ownsRow w.heap.size 5 1 v' ((K + 1) + 1) ((L.map bitByte).map fun b => .int .u8 b.toNat) := by
          have := HO5.out
          rw [show chars (List.replicate (K + 1) true) ++ [Value.int IntKind.u8 48] = (L.map bitByte).map fun b => Value.int .u8 b.toNat by rw [hL, HK.out]; simp [chars, bitByte]] at this
          exact this
        have hrow : ∀ wx, Below w5.heap.size w5 wx → (convert 160 9 v').run Tryz.prog wx = .ok (.string ⟨(L.map bitByte).toArray⟩) wx := fun wx hb => by
          refine run_convert_own (P := Tryz.prog) (n := (K + 1) + 1) (base := w.heap.size) (L.map bitByte) ?_ Tryz.underlying160 Tryz.underlying5 Tryz.underlying9
          obtain ⟨h1, h2⟩ := hO
          refine ⟨h1, ?_⟩
          rcases h2 with hn | ⟨g, cap, cur, rfl, hb1, hg, rest⟩
          · exact .inl hn
          · exact .inr ⟨g, cap, cur, rfl, hb1, (hb.block g (Array.getElem?_eq_some_iff.1 hg).1).trans hg, rest⟩
        have c1 := hrow w5.drew (cdrew (Below.refl _ _))
        have hsz1 : (⟨(L.map bitByte).toArray⟩ : ByteArray).size = L.length := by simp [ByteArray.size]
        have HIB : Hid (IsBits ⟨(L.map bitByte).toArray⟩ L) := by show _ = _; simp
        have HLL : Hid (L = headK (K : Int)) := hL
        have HROW : Hid _ := hrow
        clear hL hO hrow HK
        generalize (⟨(L.map bitByte).toArray⟩ : ByteArray) = T1 at *
        go_region_with (first
          | (go_at_call 109; (try rw [ed]); go_must (refine (text_any d 2 (by decide) _).mono ?_; rintro e w7 ⟨t, rfl, ht, hb7⟩; have htz := isBits_size ht; rw [bitsOf_length] at htz; have HB7 : Hid (Below _ _ _) := hb7; have c2 := HROW.out w7 (cthen (cdrew (Below.refl _ _)) hb7); have c3 := fun wx => run_string_add_sum (P := Tryz.prog) wx T1 t (by rw [htz, hsz1]; omega); clear hb7)))
        all_goals
          go_wp2
          refine bodyPost_ret (v := .string (T1 ++ t)) (by simp [results, Tryz.results113, go_sem]) rfl (hQ.out _ _ ⟨_, rfl, ?_, ?_⟩)
          · rw [← HLL.out]; exact isBits_append HIB.out ht
          · exact (hb.out.trans HB5.out).drew.trans (HB7.out.mono (by have := (hb.out.trans HB5.out).size; simpa using this))
  · have HK : Hid (headK k = List.replicate (-k).toNat false ++ [true]) := by show _ = _; unfold headK; rw [if_neg hk0]
    have hlt4 : decide ((0 : Int) ≤ k) = false := decide_eq_false hk0
    go_enter Tryz.func113, Tryz.ntmps113
    go_wp2_with (go_at_call 128; refine (k1 _).mono ?_; rintro e w1 ⟨rfl, hw⟩; rw [hw]; clear hw w1)
    refine wp_loop_rounds 1 ?_
    rw [rounds_succ]
    go_wp2
    go_loopw [4, 6] (fun v i wr => ∃ j : Nat, j ≤ (-k).toNat ∧ i = .int .i64 (-(j : Int)) ∧ Hid (wr.ownsRow w.heap.size 5 1 v j (chars (List.replicate j false))) ∧ Hid (Below w.heap.size w wr)) (fun _ i _ => (-k).toNat - (-(intOf i)).toNat)
    case atStart => exact ⟨0, Nat.zero_le _, rfl, World.ownsRow_nil _ _ _ _, Below.refl _ _⟩
    case round =>
      rename World => wr
      obtain ⟨j, hj, rfl, hown, hb⟩ := hrel
      have hs := hb.out.size
      by_cases hlt : j < (-k).toNat
      · have hlt2 : decide (k < -(j : Int)) = true := decide_eq_true (by omega)
        go_wp2_with (at_builtin; go_must (refine append1 rfl _ _ 160 rfl w.heap.size 5 i0 (.int .u8 0) 1 Tryz.underlying160 hi hz0 hz1 hz2 rfl _ _ _ hown.out rfl rfl rfl (by omega) (by omega) hs ?_); intro v' w5 hown1 hb1 hne1 _; have HO5 : Hid (World.ownsRow _ _ _ _ _ _ _) := hown1; have HB5 : Hid (Below _ _ _) := hb1; clear hown1 hb1 hne1)
        go_roundw
        case rel => exact ⟨j + 1, by omega, by go_num, by show World.ownsRow _ _ _ _ _ _ _; rw [chars_rep]; exact HO5.out, hb.out.trans HB5.out⟩
        case measure => simp [intOf]; omega
      · have hjn : j = (-k).toNat := by omega
        subst hjn
        have hlt2 : decide (k < -(((-k).toNat : Nat) : Int)) = false := decide_eq_false (by omega)
        go_wp2_with (at_builtin; go_must (refine append1 rfl _ _ 160 rfl w.heap.size 5 i0 (.int .u8 0) 1 Tryz.underlying160 hi hz0 hz1 hz2 rfl _ _ _ hown.out rfl rfl rfl (by omega) (by omega) hs ?_); intro v' w5 hown1 hb1 hne1 _; have HO5 : Hid (World.ownsRow _ _ _ _ _ _ _) := hown1; have HB5 : Hid (Below _ _ _) := hb1; clear hown1 hb1 hne1)
        obtain ⟨L, hL⟩ : ∃ L, L = headK k := ⟨_, rfl⟩
        have hLl : L.length ≤ 66 := by rw [hL, HK.out]; simp; omega
        have hO : w5.ownsRow w.heap.size 5 1 v' ((-k).toNat + 1) ((L.map bitByte).map fun b => .int .u8 b.toNat) := by
          have := HO5.out
          rw [show chars (List.replicate (-k).toNat false) ++ [Value.int IntKind.u8 49] = (L.map bitByte).map fun b => Value.int .u8 b.toNat by rw [hL, HK.out]; simp [chars, bitByte]] at this
          exact this
        have hrow : ∀ wx, Below w5.heap.size w5 wx → (convert 160 9 v').run Tryz.prog wx = .ok (.string ⟨(L.map bitByte).toArray⟩) wx := fun wx hb => by
          refine run_convert_own (P := Tryz.prog) (n := (-k).toNat + 1) (base := w.heap.size) (L.map bitByte) ?_ Tryz.underlying160 Tryz.underlying5 Tryz.underlying9
          obtain ⟨h1, h2⟩ := hO
          refine ⟨h1, ?_⟩
          rcases h2 with hn | ⟨g, cap, cur, rfl, hb1, hg, rest⟩
          · exact .inl hn
          · exact .inr ⟨g, cap, cur, rfl, hb1, (hb.block g (Array.getElem?_eq_some_iff.1 hg).1).trans hg, rest⟩
        have c1 := hrow w5.drew (cdrew (Below.refl _ _))
        have hsz1 : (⟨(L.map bitByte).toArray⟩ : ByteArray).size = L.length := by simp [ByteArray.size]
        have HIB : Hid (IsBits ⟨(L.map bitByte).toArray⟩ L) := by show _ = _; simp
        have HLL : Hid (L = headK k) := hL
        have HROW : Hid _ := hrow
        clear hL hO hrow HK
        generalize (⟨(L.map bitByte).toArray⟩ : ByteArray) = T1 at *
        go_region_with (first
          | (go_at_call 109; (try rw [ed]); refine (text_any d 2 (by decide) _).mono ?_; rintro e w7 ⟨t, rfl, ht, hb7⟩; have htz := isBits_size ht; rw [bitsOf_length] at htz; have HB7 : Hid (Below _ _ _) := hb7; have c2 := HROW.out w7 (cthen (cdrew (Below.refl _ _)) hb7); have c3 := fun wx => run_string_add_sum (P := Tryz.prog) wx T1 t (by rw [htz, hsz1]; omega); clear hb7))
        all_goals
          go_wp2
          refine bodyPost_ret (v := .string (T1 ++ t)) (by simp [results, Tryz.results113, go_sem]) rfl (hQ.out _ _ ⟨_, rfl, ?_, ?_⟩)
          · rw [← HLL.out]; exact isBits_append HIB.out ht
          · exact (hb.out.trans HB5.out).drew.trans (HB7.out.mono (by have := (hb.out.trans HB5.out).size; simpa using this))
end Go.Proofs.YtheliihkkoohnaaGreat

namespace Go.Proofs.YtheliihkkoohnaaGreat
open Go.ChangeShapes Go.WideShapes Go.ChangeAt Go.RowKit
set_option linter.unusedVariables false
set_option linter.unusedSimpArgs false
set_option maxRecDepth 100000

/-! ### which Nums are sound -/
def soundN (k : Int) (neg : Bool) (s : Int) (f : Nat) : Bool :=
  if k = 0 ∨ k = 2 then decide (neg = false ∧ s = 0 ∧ f = 0) else decide (k = 1 ∧ 9223372036854775808 ≤ f ∧ -1073741824 ≤ s ∧ s ≤ 1073741824)
theorem sound6_any (k : Int) (neg : Bool) (s : Int) (f : Nat) (w : World) :
    Calls Tryz.prog 71 #[numV k neg s f] w fun e w' => e = .returned (.bool (soundN k neg s f)) ∧ Below w.heap.size w w' := by
  unfold numV soundN
  refine cps fun Q hQ => ?_
  by_cases h0 : k = 0
  · subst h0
    go_enter Tryz.func71, Tryz.ntmps71
    go_wp2
    all_goals exact hQ.out _ _ ⟨ret_b (by simp_all), cmore (Below.refl _ _) _⟩
  · by_cases h2 : k = 2
    · subst h2
      go_enter Tryz.func71, Tryz.ntmps71
      go_wp2
      all_goals exact hQ.out _ _ ⟨ret_b (by simp_all), cmore (Below.refl _ _) _⟩
    · by_cases h1 : k = 1
      · subst h1
        go_enter Tryz.func71, Tryz.ntmps71
        go_wp2
        all_goals exact hQ.out _ _ ⟨ret_b (by simp_all <;> omega), cmore (Below.refl _ _) _⟩
      · have d0 : (k == 0) = false := beq_eq_false_iff_ne.2 h0
        have d1 : (k == 1) = false := beq_eq_false_iff_ne.2 h1
        have d2 : (k == 2) = false := beq_eq_false_iff_ne.2 h2
        have HN : Hid (¬ k = 0 ∧ ¬ k = 1 ∧ ¬ k = 2) := ⟨h0, h1, h2⟩
        clear h0 h1 h2
        go_enter Tryz.func71, Tryz.ntmps71
        go_wp2
        all_goals exact hQ.out _ _ ⟨ret_b (by have := HN.out; simp_all), cmore (Below.refl _ _) _⟩
theorem sound_cases {k : Int} {neg : Bool} {s : Int} {f : Nat} (h : soundN k neg s f = true) : (k = 0 ∧ neg = false ∧ s = 0 ∧ f = 0) ∨ (k = 2 ∧ neg = false ∧ s = 0 ∧ f = 0) ∨ k = 1 := by
  unfold soundN at h
  split at h
  · rename_i hk
    have := of_decide_eq_true h
    rcases hk with rfl | rfl
    · exact .inl ⟨rfl, this⟩
    · exact .inr (.inl ⟨rfl, this⟩)
  · exact .inr (.inr (of_decide_eq_true h).1)
/-! ### Encode -/
def inR (n : Nat) (s : Int) : Bool := decide (8 - 4 * (n : Int) ≤ s ∧ s ≤ 4 * n - 8)
end Go.Proofs.YtheliihkkoohnaaGreat

namespace Go.Proofs.YtheliihkkoohnaaGreat
set_option maxRecDepth 100000
set_option linter.unusedVariables false
set_option linter.unusedSimpArgs false

/-! ### patterns and their strings -/
theorem bitsOf_mod (x n : Nat) : bitsOf x n = bitsOf (x % 2 ^ n) n := by
  refine numOf_inj (by rw [bitsOf_length, bitsOf_length]) ?_
  rw [numOf_bits, numOf_bits, Nat.mod_mod]
theorem bits_cons (t : List Bool) (n : Nat) (h : n = t.length + 1) : bitsOf (numOf t) n = false :: t := by
  subst h
  refine numOf_inj (by rw [bitsOf_length]; rfl) ?_
  rw [numOf_bits, numOf_cons]
  have := numOf_lt t
  rw [Nat.mod_eq_of_lt (by rw [Nat.pow_succ]; omega)]
  simp
theorem numOf_zero (t : List Bool) (h : numOf t = 0) : true ∉ t := by
  intro ht
  have : t = noughts t.length := numOf_inj (by simp) (by rw [h, numOf_noughts])
  rw [this, noughts, List.mem_replicate] at ht
  exact absurd ht.2 (by decide)
theorem numOf_pos (t : List Bool) (h : true ∈ t) : 0 < numOf t := Nat.pos_of_ne_zero fun e => numOf_zero t e h
theorem mem_of_pos (t : List Bool) (h : numOf t ≠ 0) : true ∈ t := by
  induction t with
  | nil => exact absurd rfl h
  | cons b t ih =>
    cases b
    · rw [numOf_cons] at h
      exact List.mem_cons_of_mem _ (ih (by simpa using h))
    · exact List.mem_cons_self ..
def patOf (n : Nat) (neg : Bool) (t : List Bool) : Nat := if neg then 2 ^ n - numOf t else numOf t
theorem wd_pows {n : Nat} (hn : Wd n) : ∃ H : Nat, 2 ^ n = 2 * H ∧ 2 ^ (n - 1) = H ∧ 128 ≤ H ∧ (∃ q, 18446744073709551616 = q * 2 ^ n ∧ 1 ≤ q) := by
  rcases hn with rfl | rfl | rfl | rfl
  · exact ⟨128, by decide, by decide, by decide, 72057594037927936, by decide, by decide⟩
  · exact ⟨32768, by decide, by decide, by decide, 281474976710656, by decide, by decide⟩
  · exact ⟨2147483648, by decide, by decide, by decide, 4294967296, by decide, by decide⟩
  · exact ⟨9223372036854775808, by decide, by decide, by decide, 1, by decide, by decide⟩
theorem minusU_mod (n x : Nat) (hn : Wd n) (hx : x < 2 ^ 64) : minusU x % 2 ^ n = (2 ^ n - x % 2 ^ n) % 2 ^ n := by
  obtain ⟨H, h1, h2, h3, q, hq, hq1⟩ := wd_pows hn
  unfold minusU
  generalize 2 ^ n = M at *
  by_cases h0 : x = 0
  · subst h0; simp
  · rw [Nat.mod_eq_of_lt (a := 18446744073709551616 - x) (by omega)]
    have hd := Nat.div_add_mod x M
    have hm := Nat.mod_lt x (show 0 < M by omega)
    generalize x % M = r at *
    generalize x / M = c at *
    have hcq : c < q := by
      refine Nat.lt_of_not_le fun hle => ?_
      have := Nat.mul_le_mul_right M hle
      rw [Nat.mul_comm c M] at this; omega
    have e : 18446744073709551616 - x = (M - r) + M * (q - 1 - c) := by
      have e1 : M * (q - 1 - c) + M * c + M = 18446744073709551616 := by
        rw [← Nat.mul_add, show q - 1 - c + c = q - 1 by omega, ← Nat.mul_succ, show (q - 1).succ = q by omega, hq, Nat.mul_comm]
      omega
    rw [e, Nat.add_mul_mod_self_left]
theorem top_of (n x : Nat) (hn : Wd n) (hx : x < 2 ^ n) : x.testBit (n - 1) = decide (2 ^ (n - 1) ≤ x) := by
  obtain ⟨H, h1, h2, h3, _⟩ := wd_pows hn
  rw [h2]
  have := top_bit x (n - 1) (by rw [h2]; omega)
  rw [this, h2]
theorem testBit_low (x n : Nat) (h : 1 ≤ n) : x.testBit (n - 1) = (x % 2 ^ n).testBit (n - 1) := by
  rw [Nat.testBit_mod_two_pow]
  have : n - 1 < n := by omega
  simp [this]
theorem patOf_facts (n : Nat) (hn : Wd n) (neg : Bool) (t : List Bool) (hl : t.length = n - 1) (ht : true ∈ t) :
    patOf n neg t < 2 ^ n ∧ kindOf n (patOf n neg t % 2 ^ n) = 1 ∧ (patOf n neg t).testBit (n - 1) = neg ∧ strS n (patOf n neg t) = t := by
  obtain ⟨H, h1, h2, h3, q, hq, hq1⟩ := wd_pows hn
  have hw := wd_le hn
  have h4 := numOf_pos t ht
  have h5 := numOf_lt t
  rw [hl, h2] at h5
  have hlt : patOf n neg t < 2 ^ n := by unfold patOf; split <;> omega
  have htop := top_of n _ hn hlt
  have hneg : (patOf n neg t).testBit (n - 1) = neg := by
    rw [htop, h2]; unfold patOf
    cases neg
    · simp; omega
    · simp; omega
  refine ⟨hlt, ?_, hneg, ?_⟩
  · rw [Nat.mod_eq_of_lt hlt]
    unfold kindOf patOf
    rw [h2]
    cases neg
    · rw [if_neg (by simp; omega), if_neg (by simp; omega)]
    · rw [if_neg (by simp; omega), if_neg (by simp; omega)]
  · unfold strS
    rw [hneg]
    have hc := bits_cons t n (by omega)
    cases neg
    · simp only [Bool.false_eq_true, if_false]
      rw [show patOf n false t = numOf t from rfl, hc]; rfl
    · simp only [if_true]
      have hp : patOf n true t = 2 ^ n - numOf t := rfl
      have hp64 : patOf n true t < 2 ^ 64 := Nat.lt_of_lt_of_le hlt (Nat.pow_le_pow_right (by decide) hw.2)
      rw [bitsOf_mod, minusU_mod n _ hn hp64, Nat.mod_eq_of_lt hlt, hp, show 2 ^ n - (2 ^ n - numOf t) = numOf t by omega, Nat.mod_eq_of_lt (by omega), hc]
      rfl
theorem strS_num (n x : Nat) (hn : Wd n) (hx : x < 2 ^ 64) : numOf (strS n x) = (if x.testBit (n - 1) then 2 ^ n - x % 2 ^ n else x % 2 ^ n) % 2 ^ (n - 1) := by
  have hw := wd_le hn
  have drop1 : ∀ y, numOf ((bitsOf y n).drop 1) = y % 2 ^ (n - 1) := fun y => by
    have hl : (bitsOf y n).length = n := bitsOf_length _ _
    have e := numOf_bits y n
    cases hc : bitsOf y n with
    | nil => rw [hc] at hl; simp at hl; omega
    | cons b l =>
      rw [hc] at hl e
      have hl2 : l.length = n - 1 := by simp at hl; omega
      have h5 := numOf_lt l
      rw [numOf_cons, hl2] at e
      rw [hl2] at h5
      show numOf l = _
      obtain ⟨H, h1, h2, h3, _⟩ := wd_pows hn
      have e2 : y % 2 ^ (n - 1) = (y % 2 ^ n) % 2 ^ (n - 1) := (Nat.mod_mod_of_dvd y (Nat.pow_dvd_pow 2 (by omega))).symm
      rw [e2, ← e, Nat.mul_comm, Nat.mul_add_mod, Nat.mod_eq_of_lt h5]
  unfold strS
  obtain ⟨H, h1, h2, h3, _⟩ := wd_pows hn
  have dv : ∀ y, (y % 2 ^ n) % 2 ^ (n - 1) = y % 2 ^ (n - 1) := fun y => Nat.mod_mod_of_dvd y (Nat.pow_dvd_pow 2 (by omega))
  cases x.testBit (n - 1)
  · simp only [Bool.false_eq_true, if_false]
    rw [drop1, dv]
  · simp only [if_true]
    rw [drop1, ← dv, minusU_mod n x hn hx, dv]
theorem patOf_str (n x : Nat) (hn : Wd n) (hx : x < 2 ^ 64) (hk : kindOf n (x % 2 ^ n) = 1) : true ∈ strS n x ∧ patOf n (x.testBit (n - 1)) (strS n x) = x % 2 ^ n := by
  have hw := wd_le hn
  obtain ⟨H, h1, h2, h3, _⟩ := wd_pows hn
  have hnum := strS_num n x hn hx
  have hm := Nat.mod_lt x (show 0 < 2 ^ n by omega)
  have htb := testBit_low x n (by omega)
  have htop := top_of n _ hn hm
  rw [← htb] at htop
  unfold kindOf at hk
  have h0 : ¬ x % 2 ^ n = 0 := fun e => by rw [if_pos e] at hk; exact absurd hk (by decide)
  rw [if_neg h0] at hk
  have h9 : ¬ x % 2 ^ n = 2 ^ (n - 1) := fun e => by rw [if_pos e] at hk; exact absurd hk (by decide)
  rw [h2] at h9 htop hnum
  rw [h1] at hm hnum
  unfold patOf
  rw [h1]
  rw [h1] at h0 h9 htop
  generalize x % (2 * H) = y at *
  by_cases hc : H ≤ y
  · rw [decide_eq_true hc] at htop
    rw [htop] at hnum ⊢
    simp only [if_true] at hnum ⊢
    rw [Nat.mod_eq_of_lt (by omega)] at hnum
    exact ⟨mem_of_pos _ (by omega), by omega⟩
  · rw [decide_eq_false hc] at htop
    rw [htop] at hnum ⊢
    simp only [Bool.false_eq_true, if_false] at hnum ⊢
    rw [Nat.mod_eq_of_lt (by omega)] at hnum
    exact ⟨mem_of_pos _ (by omega), by omega⟩
end Go.Proofs.YtheliihkkoohnaaGreat

namespace Go.Proofs.YtheliihkkoohnaaGreat
open Go.ChangeShapes Go.WideShapes Go.ChangeAt Go.RowKit
set_option linter.unusedVariables false
set_option linter.unusedSimpArgs false
set_option maxRecDepth 100000

/-- the string of a number, cut -/
theorem cut_true (n : Nat) (s : Int) (f : Nat) (hn : Wd n) (hr : inR n s = true) : true ∈ (canon s f).take (n - 1) ∧ ((canon s f).take (n - 1)).length = n - 1 := by
  have hw := wd_le hn
  have hr' := of_decide_eq_true hr
  have hlen : 65 < (canon s f).length := by
    unfold canon
    obtain ⟨b, r, hh, _⟩ := headK_form (s / 4)
    rw [hh]; simp [bitsOf_length]
  refine ⟨?_, by rw [List.length_take]; omega⟩
  by_cases h0 : 0 ≤ s / 4
  · have e : canon s f = true :: (List.replicate (s / 4).toNat true ++ [false] ++ bitsOf (s % 4).toNat 2 ++ (bitsOf f 64).drop 1) := by
      unfold canon headK; rw [if_pos h0, List.replicate_succ]; rfl
    rw [e, show n - 1 = (n - 2) + 1 by omega, List.take_succ_cons]
    exact List.mem_cons_self ..
  · have e : canon s f = List.replicate (-(s / 4)).toNat false ++ true :: (bitsOf (s % 4).toNat 2 ++ (bitsOf f 64).drop 1) := by
      unfold canon headK; rw [if_neg h0]; simp
    have hb : (-(s / 4)).toNat ≤ n - 2 := by omega
    rw [e, List.take_append, List.length_replicate, show n - 1 - (-(s / 4)).toNat = (n - 2 - (-(s / 4)).toNat) + 1 by omega, List.take_succ_cons]
    exact List.mem_append_right _ (List.mem_cons_self ..)
end Go.Proofs.YtheliihkkoohnaaGreat

namespace Go.Proofs.YtheliihkkoohnaaGreat
open Go.ChangeShapes Go.WideShapes Go.ChangeAt Go.RowKit
set_option linter.unusedVariables false
set_option linter.unusedSimpArgs false
set_option maxRecDepth 100000

/-- the pattern that the string, cut, writes; and what it means -/
abbrev cutL (n : Nat) (s : Int) (f : Nat) : List Bool := (canon s f).take (n - 1)
def fitsN (n : Nat) (s : Int) (f : Nat) : Bool := decide (scaleL (cutL n s f) = s ∧ wordL (cutL n s f) = f)
end Go.Proofs.YtheliihkkoohnaaGreat

namespace Go.Proofs.YtheliihkkoohnaaGreat
open Go.ChangeShapes Go.WideShapes Go.ChangeAt Go.RowKit
set_option linter.unusedVariables false
set_option linter.unusedSimpArgs false
set_option maxRecDepth 100000

/-! ### Join: the string that parts seem to write -/
end Go.Proofs.YtheliihkkoohnaaGreat

namespace Go.Proofs.YtheliihkkoohnaaGreat
open Go.ChangeShapes Go.WideShapes Go.ChangeAt Go.RowKit
set_option linter.unusedVariables false
set_option linter.unusedSimpArgs false
set_option maxRecDepth 100000

/-! ### Join -/
end Go.Proofs.YtheliihkkoohnaaGreat

namespace Go.Proofs.YtheliihkkoohnaaGreat
set_option maxRecDepth 100000
open Go.ChangeShapes Go.WideShapes Go.ChangeAt Go.RowKit

/-! ### Show -/
/-! ### Run -/
/-- a run: the highest bit of the lowest n, and how many like it -/
structure IsRun (x n : Nat) (b : Bool) (k : Nat) : Prop where
  bit : b = x.testBit (n - 1)
  low : 1 ≤ k
  high : k ≤ n
  same : ∀ j, j < k → x.testBit (n - 1 - j) = b
  ends : k < n → x.testBit (n - 1 - k) ≠ b
theorem IsRun.one {x n : Nat} {b b' : Bool} {k k' : Nat} (h : IsRun x n b k) (h' : IsRun x n b' k') : b = b' ∧ k = k' := by
  have e : b = b' := by rw [h.bit, h'.bit]
  subst e
  refine ⟨rfl, ?_⟩
  rcases Nat.lt_trichotomy k k' with c | c | c
  · exact absurd (h'.same k c) (h.ends (by have := h'.high; omega))
  · exact c
  · exact absurd (h.same k' c) (h'.ends (by have := h.high; omega))
/-- how many bits a number has -/
structure IsLen (x L : Nat) : Prop where
  le : L ≤ 64
  lt : x < 2 ^ L
  top : 0 < L → x.testBit (L - 1) = true
theorem bitLen_zero : Lib.bitLen 0 = 0 := by decide
theorem isLen_bitLen (x : Nat) (hx : x < 2 ^ 64) : IsLen x (Lib.bitLen x) := by
  by_cases h0 : x = 0
  · subst h0
    rw [bitLen_zero]
    exact ⟨by omega, by simp, fun h => absurd h (by omega)⟩
  · have hl : 2 ^ x.log2 ≤ x := Nat.log2_self_le h0
    have hu : x < 2 ^ (x.log2 + 1) := Nat.lt_log2_self
    have h64 : x.log2 < 64 := (Nat.log2_lt h0).2 hx
    have e : Lib.bitLen x = x.log2 + 1 := by
      rw [Lib.bitLen_shift x.log2 x hl hx]
      have h1 : x / 2 ^ x.log2 = 1 := by
        have hp : 0 < 2 ^ x.log2 := Nat.pos_of_ne_zero (by simp)
        have a : 1 ≤ x / 2 ^ x.log2 := (Nat.le_div_iff_mul_le hp).2 (by omega)
        have b : x / 2 ^ x.log2 < 2 := (Nat.div_lt_iff_lt_mul hp).2 (by rw [Nat.mul_comm, ← Nat.pow_succ]; exact hu)
        omega
      rw [h1, show Lib.bitLen 1 = 1 by decide]
    rw [e]
    refine ⟨by omega, hu, fun _ => ?_⟩
    rw [Nat.add_sub_cancel, top_bit x x.log2 (by rw [← Nat.pow_succ']; exact hu)]
    simpa using hl
theorem lz_any (x : Nat) (hx : x < 2 ^ 64) (w : World) :
    Calls Tryz.prog 93 #[.int .u64 x] w fun e w' => ∃ L : Nat, e = .returned (.int .i64 (64 - (L : Int))) ∧ IsLen x L ∧ w' = w := by
  have hl : Lib.bitLen x ≤ 64 := Lib.bitLen_le x 64 (by decide) hx
  refine cps fun Q hQ => ?_
  go_enter Tryz.func93, Tryz.ntmps93
  go_wp2_with (go_at_call 122; refine (len64_any x hx _).mono ?_; rintro e w' ⟨rfl, rfl⟩)
  exact hQ.out _ _ ⟨_, rfl, isLen_bitLen x hx, rfl⟩
theorem xorMax (H : Nat) (h : H < 2 ^ 64) : bits BinOp.xor IntKind.u64 IntKind.u64.max (H : Int) = ((18446744073709551615 - H : Nat) : Int) := by
  have e : IntKind.u64.max = ((18446744073709551615 : Nat) : Int) := by decide
  rw [e, u64_xor_nat _ _ (by decide) h]
  congr 1
  apply ext64 (Nat.xor_lt_two_pow (by decide) h) (by omega)
  intro i hi
  rw [Nat.testBit_xor, not_bit H i h hi]
  have : (18446744073709551615 : Nat).testBit i = true := by
    rw [show (18446744073709551615 : Nat) = 2 ^ 64 - 1 from rfl, Nat.testBit_two_pow_sub_one]; simpa using hi
  rw [this]; simp
theorem head_bit (x n j : Nat) (hn : n ≤ 64) (hj : j < 64) : ((x <<< (64 - n)) % 2 ^ 64).testBit (63 - j) = (decide (j < n) && x.testBit (n - 1 - j)) := by
  rw [Nat.testBit_mod_two_pow, Nat.testBit_shiftLeft]
  by_cases h : j < n
  · have e : 63 - j - (64 - n) = n - 1 - j := by omega
    have e1 : 63 - j < 64 := by omega
    have e2 : 63 - j ≥ 64 - n := by omega
    simp [h, e, e1, e2]
  · have e2 : ¬ 63 - j ≥ 64 - n := by omega
    simp [h, e2]
/-- the run, off the length of what was shifted up (and turned, where it is of ones) -/
theorem isRun_of (x n H L : Nat) (b : Bool) (h1 : 1 ≤ n) (h2 : n ≤ 64) (hb : b = x.testBit (n - 1)) (hH : ∀ j, j < 64 → H.testBit (63 - j) = ((decide (j < n) && x.testBit (n - 1 - j)) ^^ b)) (hL : IsLen H L) :
    ∃ k : Nat, ((64 - (L : Int)) ≤ n → 64 - (L : Int) = k) ∧ ((n : Int) < 64 - (L : Int) → n = k) ∧ IsRun x n b k := by
  have hz : ∀ j, j < 64 - L → H.testBit (63 - j) = false := fun j hj => Nat.testBit_lt_two_pow (Nat.lt_of_lt_of_le hL.lt (Nat.pow_le_pow_right (by decide) (by omega)))
  have hlow : 1 ≤ 64 - L := by
    rcases Nat.lt_or_ge L 64 with h | h
    · omega
    · have hl := hL.le
      have : L = 64 := by omega
      have ht := hL.top (by omega)
      rw [this] at ht
      have h0 := hH 0 (by omega)
      rw [show 63 - 0 = 64 - 1 from rfl, ht] at h0
      have hn : 0 < n := h1
      simp [hn, ← hb] at h0
  have same : ∀ j, j < n → j < 64 - L → x.testBit (n - 1 - j) = b := by
    intro j hj hj2
    have e := hH j (by omega)
    rw [hz j hj2] at e
    simp [hj] at e
    cases b <;> simp_all
  rcases Nat.lt_or_ge (64 - L) n with h | h
  · refine ⟨64 - L, by omega, by omega, hb, hlow, by omega, fun j hj => same j (by omega) hj, fun _ => ?_⟩
    have ht := hL.top (by omega)
    have e := hH (64 - L) (by omega)
    rw [show 63 - (64 - L) = L - 1 by omega, ht] at e
    simp [h] at e
    cases b <;> simp_all
  · refine ⟨n, by omega, fun _ => rfl, hb, h1, Nat.le_refl _, fun j hj => same j hj (by omega), fun h => absurd h (by omega)⟩
theorem lrun_ok (x n : Nat) (h1 : 1 ≤ n) (h2 : n ≤ 64) (w : World) :
    Calls Tryz.prog 58 #[.int .u64 x, .int .i64 n] w fun e w' => ∃ b k, e = .returned (.tuple #[.bool b, .int .i64 (k : Nat), .nilIface]) ∧ IsRun x n b k ∧ w' = w := by
  obtain ⟨H, hH⟩ : ∃ H, H = (x <<< (64 - n)) % 2 ^ 64 := ⟨_, rfl⟩
  have hlt : H < 2 ^ 64 := by rw [hH]; exact Nat.mod_lt _ (by decide)
  have hw : IntKind.u64.wrap ((x : Int) * 2 ^ (64 - n)) = (H : Int) := by rw [hH]; exact wrapShl x (64 - n)
  have hbits : Hid (∀ j, j < 64 → H.testBit (63 - j) = (decide (j < n) && x.testBit (n - 1 - j))) := fun j hj => by rw [hH]; exact head_bit x n j h2 hj
  obtain ⟨C, hC⟩ : ∃ C, C = 18446744073709551615 - H := ⟨_, rfl⟩
  have hCl : C < 2 ^ 64 := by omega
  have hxor := xorMax H hlt
  rw [← hC] at hxor
  have htop : Hid (x.testBit (n - 1) = decide (2 ^ 63 ≤ H)) := by
    have e := hbits.out 0 (by omega)
    have hn : 0 < n := h1
    rw [show 63 - 0 = 63 from rfl, top_bit H 63 (by omega)] at e
    exact (show x.testBit (n - 1) = _ by simpa [hn] using e.symm)
  have htop' : (((H : Int) / 9223372036854775808 == 1) = decide (2 ^ 63 ≤ H)) := by
    rw [Bool.eq_iff_iff]; simp; omega
  have hbC : Hid (∀ j, j < 64 → C.testBit (63 - j) = !H.testBit (63 - j)) := fun j hj => by rw [hC]; exact not_bit H _ hlt (by omega)
  clear hH hC
  have HL : Hid (H < 2 ^ 64) := hlt
  have CL : Hid (C < 2 ^ 64) := hCl
  clear hlt hCl
  refine cps fun Q hQ => ?_
  cases hc : decide (2 ^ 63 ≤ H)
  · rw [hc] at htop' htop
    clear hc
    go_enter Tryz.func58, Tryz.ntmps58
    go_wp2_with (go_at_call 93; refine (lz_any H HL.out _).mono ?_; rintro e w' ⟨L, rfl, hL, rfl⟩)
    all_goals
      obtain ⟨k, hk1, hk2, hr⟩ := isRun_of x n H L false h1 h2 htop.out.symm (fun j hj => by rw [hbits.out j hj]; simp) hL
      go_ret3
      exact hQ.out _ _ ⟨false, k, ret_bix rfl (by omega), hr, rfl⟩
  · rw [hc] at htop' htop
    clear hc
    go_enter Tryz.func58, Tryz.ntmps58
    go_wp2_with (go_at_call 93; refine (lz_any C CL.out _).mono ?_; rintro e w' ⟨L, rfl, hL, rfl⟩)
    all_goals
      obtain ⟨k, hk1, hk2, hr⟩ := isRun_of x n C L true h1 h2 htop.out.symm (fun j hj => by rw [hbC.out j hj, hbits.out j hj]; simp) hL
      go_ret3
      exact hQ.out _ _ ⟨true, k, ret_bix rfl (by omega), hr, rfl⟩
end Go.Proofs.YtheliihkkoohnaaGreat

namespace Go.Proofs.YtheliihkkoohnaaGreat
set_option maxRecDepth 100000
set_option linter.unusedVariables false
set_option linter.unusedSimpArgs false

/-! ### bits put, bits read, of a word that is a string (plain mathematics) -/
theorem numOf_noughts_append (z : Nat) (l : List Bool) : numOf (noughts z ++ l) = numOf l := by
  rw [numOf_append, numOf_noughts]; simp
/-- bits read out of a word that ends with a string -/
theorem fieldOf_mod (y at_ m k : Nat) (h : at_ + m ≤ k) : fieldOf y at_ m = fieldOf (y % 2 ^ k) at_ m := by
  apply Nat.eq_of_testBit_eq
  intro i
  rw [fieldOf, fieldOf, Nat.testBit_mod_two_pow, Nat.testBit_mod_two_pow, Nat.testBit_shiftRight, Nat.testBit_shiftRight, Nat.testBit_mod_two_pow]
  by_cases hi : i < m
  · rw [decide_eq_true (show at_ + i < k by omega)]; simp
  · simp [hi]
theorem fieldOf_list (a b c : List Bool) : fieldOf (numOf (a ++ b ++ c)) c.length b.length = numOf b := by
  have hc := numOf_lt c
  have hb := numOf_lt b
  have h0 : 0 < 2 ^ c.length := Nat.pos_of_ne_zero (by simp)
  rw [fieldOf, numOf_append, numOf_append, Nat.shiftRight_eq_div_pow, Nat.mul_comm, Nat.mul_add_div h0, Nat.div_eq_of_lt hc, Nat.add_zero, Nat.mul_comm, Nat.mul_add_mod, Nat.mod_eq_of_lt hb]
/-- the parts of a string, read off a word that ends with it -/
theorem exp_field (t : List Bool) (y m E F : Nat) (hl : t.length = m) (hy : y % 2 ^ m = numOf t) (hE : E = min (restL t).length 2) (hF : F = (restL t).length - E) :
    fieldOf y F E * 2 ^ (2 - E) = expL t ∧ fieldOf y 0 F = fracL t := by
  have hr := restL_length t
  have ht : t = t.take (runL t + 1) ++ (restL t).take E ++ (restL t).drop E := by
    rw [List.append_assoc, List.take_append_drop, restL, List.take_append_drop]
  have l1 : ((restL t).take E).length = E := by rw [List.length_take]; omega
  have l2 : ((restL t).drop E).length = F := by rw [List.length_drop]; omega
  have hEu : (E = (restL t).length ∧ (restL t).length ≤ 2) ∨ (E = 2 ∧ 2 < (restL t).length) := by omega
  have f1 := fieldOf_list (t.take (runL t + 1)) ((restL t).take E) ((restL t).drop E)
  have f2 := fieldOf_list (t.take (runL t + 1) ++ (restL t).take E) ((restL t).drop E) []
  rw [List.append_nil, List.length_nil] at f2
  rw [← ht, l1, l2] at f1
  rw [← ht, l2] at f2
  constructor
  · rw [fieldOf_mod y F E m (by omega), hy, f1]
    unfold expL
    have : (restL t ++ noughts 2).take 2 = (restL t).take E ++ noughts (2 - E) := by
      rcases hEu with ⟨h1, h2⟩ | ⟨h1, h2⟩
      · rw [List.take_append, List.take_of_length_le h2, h1, List.take_of_length_le (Nat.le_refl _), take_noughts _ _ (by omega)]
      · rw [h1, List.take_append_of_le_length (by omega)]; simp [noughts]
    rw [this, numOf_append, numOf_noughts]; simp
  · rw [fieldOf_mod y 0 F m (by omega), hy, f2, frac_drop _ _ hEu]; rfl
/-- the run of a string, read off a word that ends with it -/
theorem run_field (t : List Bool) (y m : Nat) (h0 : 0 < m) (hl : t.length = m) (hy : y % 2 ^ m = numOf t) : IsRun y m (onesL t) (runL t) := by
  have hne : t ≠ [] := by rintro rfl; simp at hl; omega
  obtain ⟨b, r, tl, rfl, htl⟩ := split_run t hne
  have hbit : ∀ j, j < m → y.testBit (m - 1 - j) = (List.replicate (r + 1) b ++ tl).getD j false := fun j hj => by
    have : (y % 2 ^ m).testBit (m - 1 - j) = y.testBit (m - 1 - j) := by
      rw [Nat.testBit_mod_two_pow, decide_eq_true (by omega)]; rfl
    rw [← this, hy, numOf_testBit, hl, decide_eq_true (by omega), show m - 1 - (m - 1 - j) = j by omega]; rfl
  rw [runL_rep b r tl htl, onesL_rep]
  have hl' : r + 1 + tl.length = m := by simpa using hl
  refine ⟨?_, by omega, by omega, ?_, ?_⟩
  · have := hbit 0 h0
    rw [Nat.sub_zero] at this
    rw [this, List.replicate_succ]; rfl
  · intro j hj
    rw [hbit j (by omega), List.getD_eq_getElem?_getD, List.getElem?_append_left (by simpa using hj), List.getElem?_replicate, if_pos hj]; rfl
  · intro hk
    rw [hbit (r + 1) hk, List.getD_eq_getElem?_getD, List.getElem?_append_right (by simp)]
    rcases htl with rfl | ⟨u, rfl⟩
    · simp at hl'; omega
    · simp
theorem bits_drop1 (x m : Nat) (h : 1 ≤ m) : (bitsOf x m).drop 1 = bitsOf x (m - 1) := by
  apply List.ext_getElem?
  intro j
  by_cases hj : j < m - 1
  · rw [List.getElem?_drop, bitsOf_get _ _ _ (by omega), bitsOf_get _ _ _ hj]
    congr 2; omega
  · rw [List.getElem?_eq_none (by rw [List.length_drop, bitsOf_length]; omega), List.getElem?_eq_none (by rw [bitsOf_length]; omega)]
end Go.Proofs.YtheliihkkoohnaaGreat

namespace Go.Proofs.YtheliihkkoohnaaGreat
open Go.ChangeShapes Go.WideShapes Go.ChangeAt Go.RowKit
set_option linter.unusedVariables false
set_option linter.unusedSimpArgs false
set_option maxRecDepth 100000

theorem ret_ii {k : IntKind} {a b c d : Int} (h : a = b) (g : c = d) : Ending.returned (.tuple #[.int k a, .int k c]) = .returned (.tuple #[.int k b, .int k d]) := by rw [h, g]
/-! ### the code's helpers: regime, row, room, assemble -/
theorem cregime_any (ones : Bool) (run : Int) (h1 : -1000 ≤ run) (h2 : run ≤ 1000) (w : World) :
    Calls Tryz.prog 59 #[.bool ones, .int .i64 run] w fun e w' => e = .returned (.int .i64 (if ones then run - 1 else -run)) ∧ w' = w := by
  refine cps fun Q hQ => ?_
  cases ones
  · go_enter Tryz.func59, Tryz.ntmps59
    go_wp2
    exact hQ.out _ _ ⟨ret_i rfl, rfl⟩
  · go_enter Tryz.func59, Tryz.ntmps59
    go_wp2
    exact hQ.out _ _ ⟨ret_i rfl, rfl⟩
theorem croom_any (n run : Nat) (hn : n ≤ 64) (h2 : run ≤ 64) (w : World) :
    Calls Tryz.prog 60 #[.int .i64 n, .int .i64 run] w fun e w' => e = .returned (.tuple #[.int .i64 (min (n - 2 - run) 2 : Nat), .int .i64 (n - 2 - run - min (n - 2 - run) 2 : Nat)]) ∧ w' = w := by
  refine cps fun Q hQ => ?_
  obtain ⟨q, hq⟩ : ∃ q, q = n - 2 - run := ⟨_, rfl⟩
  rw [← hq] at hQ
  obtain ⟨E, hE⟩ : ∃ E, E = min q 2 := ⟨_, rfl⟩
  rw [← hE] at hQ
  have HQ2 : Hid (q = n - 2 - run ∧ E = min q 2) := ⟨hq, hE⟩
  clear hq hE
  go_enter Tryz.func60, Tryz.ntmps60
  go_wp2
  all_goals
    obtain ⟨h3, h4⟩ := HQ2.out
    exact hQ.out _ _ ⟨ret_ii (by omega) (by omega), rfl⟩
end Go.Proofs.YtheliihkkoohnaaGreat

namespace Go.Proofs.YtheliihkkoohnaaGreat
open Go.ChangeShapes Go.WideShapes Go.ChangeAt Go.RowKit
set_option linter.unusedVariables false
set_option linter.unusedSimpArgs false
set_option maxRecDepth 100000

/-! ### assemble -/
theorem isField_nat {a m : Nat} (h : a + m ≤ 64) : isField a m = true := by simp [isField]; omega
end Go.Proofs.YtheliihkkoohnaaGreat

namespace Go.Proofs.YtheliihkkoohnaaGreat
open Go.ChangeShapes Go.WideShapes Go.ChangeAt Go.RowKit
set_option linter.unusedVariables false
set_option linter.unusedSimpArgs false
set_option maxRecDepth 100000

/-! ### Split -/
abbrev codeV (c : Int) : Value := .iface 51 (.int .i64 c)
theorem crun_str (n y : Nat) (hn : Wd n) (t : List Bool) (hl : t.length = n - 1) (hy : y % 2 ^ (n - 1) = numOf t) (M : Int) (hM : M = (n : Int) - 1) (w : World) :
    Calls Tryz.prog 58 #[.int .u64 y, .int .i64 M] w fun e w' => e = .returned (.tuple #[.bool (onesL t), .int .i64 (runL t : Nat), .nilIface]) ∧ w' = w := by
  have hw := wd_le hn
  have := lrun_ok y (n - 1) (by omega) (by omega) w
  rw [show (((n - 1 : Nat) : Int)) = M by omega] at this
  refine this.mono ?_
  rintro e w' ⟨b, k, rfl, hr, rfl⟩
  obtain ⟨rfl, rfl⟩ := hr.one (run_field t y (n - 1) (by omega) hl hy)
  exact ⟨rfl, rfl⟩
theorem cfield_nat (y a m : Nat) (hy : y < 2 ^ 64) (h : a + m ≤ 64) (A : Int) (hA : A = a) (w : World) :
    Calls Tryz.prog 61 #[.int .u64 y, .int .i64 A, .int .i64 m] w fun e w' => e = .returned (.tuple #[.int .u64 (fieldOf y a m : Nat), .nilIface]) ∧ ∃ q, w' = w.drewN q := by
  subst hA
  have := lfield_ok y a m hy (isField_nat h) w
  rwa [Int.toNat_natCast, Int.toNat_natCast] at this
theorem strS_word (n x : Nat) (hn : Wd n) (hx : x < 2 ^ 64) : (if x.testBit (n - 1) then minusU x else x) % 2 ^ (n - 1) = numOf (strS n x) := by
  have hw := wd_le hn
  have drop1 : ∀ y, numOf ((bitsOf y n).drop 1) = y % 2 ^ (n - 1) := fun y => by
    have := bits_drop1 y n (by omega)
    rw [this, numOf_bits]
  unfold strS
  cases x.testBit (n - 1)
  · simp only [Bool.false_eq_true, if_false]; rw [drop1]
  · simp only [if_true]; rw [drop1]
theorem ext_neg (n x : Nat) (hn : Wd n) : decide (extOf x n < 0) = x.testBit (n - 1) := by
  have h := Nat.mod_lt x (show 0 < 2 ^ n from Nat.pos_of_ne_zero (by simp))
  unfold extOf
  cases x.testBit (n - 1)
  · exact decide_eq_false (by simp only [Bool.toNat_false, Nat.zero_mul]; omega)
  · exact decide_eq_true (by simp only [Bool.toNat_true, Nat.one_mul]; omega)
set_option maxHeartbeats 1000000 in
theorem csplit_real (n x : Nat) (hn : Wd n) (hx : x < 2 ^ 64) (hk : kindOf n (x % 2 ^ n) = 1) (w : World) :
    Calls Tryz.prog 33 #[.int .i64 n, .int .u64 x] w fun e w' => e = .returned (.tuple #[fdV (x.testBit (n - 1)) (strS n x), .nilIface]) ∧ Below w.heap.size w w' := by
  have k1 := kind_ok n x hn hx
  rw [hk] at k1
  have hw := wd_le hn
  have hlen := strS_length n x
  have k2 := rank_ok n x hn
  have hneg := ext_neg n x hn
  have hm := minusU_wrap x hx
  have hyw := strS_word n x hn hx
  obtain ⟨y, hy⟩ : ∃ y, y = (if x.testBit (n - 1) then minusU x else x) := ⟨_, rfl⟩
  rw [← hy] at hyw
  have hy64 : y < 2 ^ 64 := by rw [hy]; split; exact minusU_lt _; exact hx
  have k3 := fun M hM w => crun_str n y hn (strS n x) hlen hyw M hM w
  replace k3 := k3 ((n : Int) - 1) rfl
  have hrl := runL_le (strS n x)
  have hrl2 := restL_length (strS n x)
  have hr1 : 1 ≤ runL (strS n x) := by
    have := (run_field (strS n x) y (n - 1) (by omega) hlen hyw).low
    exact this
  rw [hlen] at hrl hrl2
  obtain ⟨r, hr⟩ : ∃ r, r = runL (strS n x) := ⟨_, rfl⟩
  obtain ⟨E, hE⟩ : ∃ E, E = min (n - 2 - r) 2 := ⟨_, rfl⟩
  obtain ⟨F, hF⟩ : ∃ F, F = n - 2 - r - E := ⟨_, rfl⟩
  obtain ⟨d, hd⟩ : ∃ d, d = 2 - E := ⟨_, rfl⟩
  have hE' : E = min (restL (strS n x)).length 2 := by rw [hrl2, hE, ← hr]; congr 1; omega
  have hF' : F = (restL (strS n x)).length - E := by rw [hrl2, hF, ← hr]; omega
  obtain ⟨f1, f2⟩ := exp_field (strS n x) y (n - 1) E F hlen hyw hE' hF'
  have hex : expL (strS n x) < 4 := by
    have := numOf_lt ((restL (strS n x) ++ noughts 2).take 2)
    rw [show ((restL (strS n x) ++ noughts 2).take 2).length = 2 by simp] at this
    exact this
  have k4 := cregime_any (onesL (strS n x)) (runL (strS n x)) (by omega) (by omega)
  have k5 := croom_any n (runL (strS n x)) hw.2 (by omega)
  rw [← hr] at k3 k4 k5 hrl hr1
  rw [← hE, ← hF] at k5
  have k6 := cfield_nat y F E hy64 (by omega) F rfl
  have k7 := cfield_nat y 0 F hy64 (by omega) 0 rfl
  rw [f2] at k7
  have hev : fieldOf y F E < 4 := by
    have : 0 < 2 ^ (2 - E) := Nat.pos_of_ne_zero (by simp)
    have h := Nat.le_mul_of_pos_right (fieldOf y F E) this
    omega
  have hdd : (2 : Int) - (E : Int) = (d : Int) := by omega
  have hv : fdV (x.testBit (n - 1)) (strS n x) = .agg #[.bool (x.testBit (n - 1)), .bool (onesL (strS n x)), .int .i64 r, .int .i64 (if onesL (strS n x) then (r : Int) - 1 else -(r : Int)), .int .i64 (E : Nat), .int .i64 (expL (strS n x)), .int .i64 (F : Nat), .int .u64 (fracL (strS n x))] := by
    unfold fdV regL
    rw [← hr, ← hE', show (restL (strS n x)).length - 2 = F by omega]
  rw [hv]
  rw [← hd] at f1
  obtain ⟨ex, hexx⟩ : ∃ ex, ex = expL (strS n x) := ⟨_, rfl⟩
  rw [← hexx] at f1 hex
  rw [← hexx]
  have hsh : ((fieldOf y F E : Nat) : Int) * 2 ^ d = (ex : Int) := by rw [← f1]; simp
  have hshw : wrap64 (((fieldOf y F E : Nat) : Int) * 2 ^ d) = (ex : Int) := by rw [hsh]; unfold wrap64; omega
  clear hsh
  have hd2 : d ≤ 2 := by omega
  have hE2 : E ≤ 2 := by omega
  have hF2 : F ≤ 62 := by omega
  have hr2 : r ≤ 63 := by omega
  clear f1 f2 hv hE hF hE' hF' hd hrl hrl2 hr hexx hyw hlen hk
  obtain ⟨b, hb⟩ : ∃ b, b = x.testBit (n - 1) := ⟨_, rfl⟩
  rw [← hb] at hneg hy
  rw [← hb]
  clear hb
  generalize onesL (strS n x) = o at *
  generalize fracL (strS n x) = fr at *
  generalize fieldOf y F E = ev at *
  obtain ⟨rg, hrg⟩ : ∃ rg : Int, rg = (if o then (r : Int) - 1 else -(r : Int)) := ⟨_, rfl⟩
  rw [← hrg] at k4
  rw [← hrg]
  clear hrg
  generalize extOf x n = ext at *
  refine cps fun Q hQ => ?_
  clear hn
  cases b
  · simp only [Bool.false_eq_true, if_false] at hy
    subst hy
    go_enter Tryz.func33, Tryz.ntmps33
    go_wp2_with (first
      | (go_at_call 32; go_must (refine (k1 _).mono ?_); rintro e w1 ⟨rfl, hb1⟩; have R1 := (hb1.block w.heap.size (by simp)).trans (rownew w _ _); have z1 : w.heap.size < w1.heap.size := (by have := hb1.size; simp at this; omega); have HR1 : Hid _ := R1; have HB1 : Hid (Below _ _ _) := hb1; clear hb1 R1)
      | (go_at_call 57; go_must (refine (k2 _).mono ?_); rintro e w2 ⟨rfl, hb2⟩; have R0 := (hb2.block w.heap.size z1).trans HR1.out; have z2 : w.heap.size < w2.heap.size := (Nat.lt_of_lt_of_le z1 hb2.size); have HR0 : Hid _ := R0; have hne1 : ¬ w.heap.size = w2.heap.size := (by omega); have hne2 : ¬ w2.heap.size = w.heap.size := (by omega); have HB2 : Hid (Below _ _ _) := hb2; clear hb2 R0)
      | (go_at_call 58; go_must (refine (k3 _).mono ?_); rintro e w3 ⟨rfl, rfl⟩)
      | (go_at_call 59; go_must (refine (k4 _).mono ?_); rintro e w3 ⟨rfl, rfl⟩)
      | (go_at_call 60; go_must (refine (k5 _).mono ?_); rintro e w3 ⟨rfl, rfl⟩)
      | (go_at_call_of 61 E; go_must (refine (k6 _).mono ?_); rintro e w6 ⟨rfl, q6, hw6⟩; have R6 : w6.heap[w2.heap.size]? = some (.cells #[.bool false, .bool o, .int .i64 r, .int .i64 rg, .int .i64 (E : Nat), .int .i64 0, .int .i64 (F : Nat), .int .u64 0] 64 (0, 0)) := (by rw [hw6]; exact rownew w2 _ _); have B6 : Below w2.heap.size w2 w6 := (by rw [hw6]; exact below_drewN (cmore (Below.refl _ _) _) _); have e0 := rowcell R6 0; have e1 := rowcell R6 1; have e2 := rowcell R6 2; have e3 := rowcell R6 3; have e4 := rowcell R6 4; have e5 := rowcell R6 5; have e6 := rowcell R6 6; have e7 := rowcell R6 7; have ef := rowfree R6; simp only [List.getElem?_toArray, List.getElem?_cons_zero, List.getElem?_cons_succ] at e0 e1 e2 e3 e4 e5 e6 e7; have HR6 : Hid _ := R6; have HB6 : Hid (Below _ _ _) := B6; clear R6 B6 hw6)
      | (go_at_call 61; go_must (refine (k7 _).mono ?_); rintro e w7 ⟨rfl, q7, hw7⟩; have R7 : w7.heap[w2.heap.size]? = some (.cells #[.bool false, .bool o, .int .i64 r, .int .i64 rg, .int .i64 (E : Nat), .int .i64 ex, .int .i64 (F : Nat), .int .u64 0] 64 (0, 0)) := (by rw [hw7]; refine (rowset HR6.out 5 _).trans ?_; simp only [List.setIfInBounds_toArray, List.set_cons_zero, List.set_cons_succ]); have B7 : Below w2.heap.size w2 w7 := (by rw [hw7]; exact below_drewN (cset HB6.out (Nat.le_refl _) _ _) _); have g0 := rowcell R7 0; have g1 := rowcell R7 1; have g2 := rowcell R7 2; have g3 := rowcell R7 3; have g4 := rowcell R7 4; have g5 := rowcell R7 5; have g6 := rowcell R7 6; have g7 := rowcell R7 7; have gf := rowfree R7; simp only [List.getElem?_toArray, List.getElem?_cons_zero, List.getElem?_cons_succ] at g0 g1 g2 g3 g4 g5 g6 g7; have R0 := (B7.block w.heap.size z2).trans HR0.out; have b0 := rowcell R0 0; have b1 := rowcell R0 1; have b2 := rowcell R0 2; have b3 := rowcell R0 3; have b4 := rowcell R0 4; have b5 := rowcell R0 5; have b6 := rowcell R0 6; have b7 := rowcell R0 7; have bf := rowfree R0; simp only [List.getElem?_toArray, List.getElem?_cons_zero, List.getElem?_cons_succ] at b0 b1 b2 b3 b4 b5 b6 b7; have HB7 : Hid (Below _ _ _) := B7; clear R7 B7 R0 hw7 e0 e1 e2 e3 e4 e5 e6 e7 ef))
    have B2 := cthen (cthen (cmore (Below.refl w.heap.size w) _) HB1.out) HB2.out
    have hmw : w.heap.size ≤ w2.heap.size := Nat.le_of_lt z2
    refine bodyPost_ret (v := .tuple #[.agg #[.bool false, .bool o, .int .i64 r, .int .i64 rg, .int .i64 (E : Nat), .int .i64 ex, .int .i64 (F : Nat), .int .u64 fr], .nilIface]) (by simp [results, Tryz.results33, go_sem, b0, b1, b2, b3, b4, b5, b6, b7, bf, hne1, hne2]) rfl (hQ.out _ _ ⟨rfl, ?_⟩)
    exact cset8 (cset (cthen B2 HB7.out) hmw _ _) (Nat.le_refl _)
  · simp only [if_true] at hy
    rw [← hy] at hm
    clear hy
    go_enter Tryz.func33, Tryz.ntmps33
    go_wp2_with (first
      | (go_at_call 32; go_must (refine (k1 _).mono ?_); rintro e w1 ⟨rfl, hb1⟩; have R1 := (hb1.block w.heap.size (by simp)).trans (rownew w _ _); have z1 : w.heap.size < w1.heap.size := (by have := hb1.size; simp at this; omega); have HR1 : Hid _ := R1; have HB1 : Hid (Below _ _ _) := hb1; clear hb1 R1)
      | (go_at_call 57; go_must (refine (k2 _).mono ?_); rintro e w2 ⟨rfl, hb2⟩; have R0 := (hb2.block w.heap.size z1).trans HR1.out; have z2 : w.heap.size < w2.heap.size := (Nat.lt_of_lt_of_le z1 hb2.size); have HR0 : Hid _ := R0; have hne1 : ¬ w.heap.size = w2.heap.size := (by omega); have hne2 : ¬ w2.heap.size = w.heap.size := (by omega); have HB2 : Hid (Below _ _ _) := hb2; clear hb2 R0)
      | (go_at_call 58; go_must (refine (k3 _).mono ?_); rintro e w3 ⟨rfl, rfl⟩)
      | (go_at_call 59; go_must (refine (k4 _).mono ?_); rintro e w3 ⟨rfl, rfl⟩)
      | (go_at_call 60; go_must (refine (k5 _).mono ?_); rintro e w3 ⟨rfl, rfl⟩)
      | (go_at_call_of 61 E; go_must (refine (k6 _).mono ?_); rintro e w6 ⟨rfl, q6, hw6⟩; have R6 : w6.heap[w2.heap.size]? = some (.cells #[.bool true, .bool o, .int .i64 r, .int .i64 rg, .int .i64 (E : Nat), .int .i64 0, .int .i64 (F : Nat), .int .u64 0] 64 (0, 0)) := (by rw [hw6]; exact rownew w2 _ _); have B6 : Below w2.heap.size w2 w6 := (by rw [hw6]; exact below_drewN (cmore (Below.refl _ _) _) _); have e0 := rowcell R6 0; have e1 := rowcell R6 1; have e2 := rowcell R6 2; have e3 := rowcell R6 3; have e4 := rowcell R6 4; have e5 := rowcell R6 5; have e6 := rowcell R6 6; have e7 := rowcell R6 7; have ef := rowfree R6; simp only [List.getElem?_toArray, List.getElem?_cons_zero, List.getElem?_cons_succ] at e0 e1 e2 e3 e4 e5 e6 e7; have HR6 : Hid _ := R6; have HB6 : Hid (Below _ _ _) := B6; clear R6 B6 hw6)
      | (go_at_call 61; go_must (refine (k7 _).mono ?_); rintro e w7 ⟨rfl, q7, hw7⟩; have R7 : w7.heap[w2.heap.size]? = some (.cells #[.bool true, .bool o, .int .i64 r, .int .i64 rg, .int .i64 (E : Nat), .int .i64 ex, .int .i64 (F : Nat), .int .u64 0] 64 (0, 0)) := (by rw [hw7]; refine (rowset HR6.out 5 _).trans ?_; simp only [List.setIfInBounds_toArray, List.set_cons_zero, List.set_cons_succ]); have B7 : Below w2.heap.size w2 w7 := (by rw [hw7]; exact below_drewN (cset HB6.out (Nat.le_refl _) _ _) _); have g0 := rowcell R7 0; have g1 := rowcell R7 1; have g2 := rowcell R7 2; have g3 := rowcell R7 3; have g4 := rowcell R7 4; have g5 := rowcell R7 5; have g6 := rowcell R7 6; have g7 := rowcell R7 7; have gf := rowfree R7; simp only [List.getElem?_toArray, List.getElem?_cons_zero, List.getElem?_cons_succ] at g0 g1 g2 g3 g4 g5 g6 g7; have R0 := (B7.block w.heap.size z2).trans HR0.out; have b0 := rowcell R0 0; have b1 := rowcell R0 1; have b2 := rowcell R0 2; have b3 := rowcell R0 3; have b4 := rowcell R0 4; have b5 := rowcell R0 5; have b6 := rowcell R0 6; have b7 := rowcell R0 7; have bf := rowfree R0; simp only [List.getElem?_toArray, List.getElem?_cons_zero, List.getElem?_cons_succ] at b0 b1 b2 b3 b4 b5 b6 b7; have HB7 : Hid (Below _ _ _) := B7; clear R7 B7 R0 hw7 e0 e1 e2 e3 e4 e5 e6 e7 ef))
    have B2 := cthen (cthen (cmore (Below.refl w.heap.size w) _) HB1.out) HB2.out
    have hmw : w.heap.size ≤ w2.heap.size := Nat.le_of_lt z2
    refine bodyPost_ret (v := .tuple #[.agg #[.bool true, .bool o, .int .i64 r, .int .i64 rg, .int .i64 (E : Nat), .int .i64 ex, .int .i64 (F : Nat), .int .u64 fr], .nilIface]) (by simp [results, Tryz.results33, go_sem, b0, b1, b2, b3, b4, b5, b6, b7, bf, hne1, hne2]) rfl (hQ.out _ _ ⟨rfl, ?_⟩)
    exact cset8 (cset (cthen B2 HB7.out) hmw _ _) (Nat.le_refl _)
end Go.Proofs.YtheliihkkoohnaaGreat

namespace Go.Proofs.YtheliihkkoohnaaGreat
open Go.ChangeShapes Go.WideShapes Go.ChangeAt Go.RowKit
set_option linter.unusedVariables false
set_option linter.unusedSimpArgs false
set_option maxRecDepth 100000

/-! ### Decode -/
theorem cdecode_other (n x : Nat) (hn : Wd n) (hx : x < 2 ^ 64) (hk : kindOf n (x % 2 ^ n) ≠ 1) (w : World) :
    Calls Tryz.prog 17 #[.int .i64 n, .int .u64 x] w fun e w' => e = .returned (.tuple #[numV (kindOf n (x % 2 ^ n)) false 0 0, .nilIface]) ∧ Below w.heap.size w w' := by
  have k1 := kind_ok n x hn hx
  generalize kindOf n (x % 2 ^ n) = k at *
  clear hn
  refine cps fun Q hQ => ?_
  have hd : (k == 1) = false := beq_eq_false_iff_ne.2 hk
  go_enter Tryz.func17, Tryz.ntmps17
  go_wp2_with (go_at_call 32; refine (k1 _).mono ?_; rintro e w1 ⟨rfl, hb1⟩; have hc := fun b o h => hb1.cell (p := ⟨b, o, none⟩) h; have hf := fun b o h => hb1.frozen (p := ⟨b, o, none⟩) h; have hz := hb1.size; simp at hz; have hz' : w.heap.size < w1.heap.size := hz)
  refine bodyPost_ret (v := .tuple #[numV k false 0 0, .nilIface]) (by simp [results, Tryz.results17, go_sem, hc, hz', numV]) rfl (hQ.out _ _ ⟨rfl, ?_⟩)
  exact cset4 (cthen (cmore (Below.refl _ _) _) hb1) (Nat.le_refl _)
theorem cdecode_no (n : Int) (x : Nat) (hn : isW n = false) (w : World) :
    Calls Tryz.prog 17 #[.int .i64 n, .int .u64 x] w fun e w' => e = .returned (.tuple #[numV 0 false 0 0, codeV 2]) ∧ Below w.heap.size w w' := by
  have k1 := kind_no n x hn
  clear hn
  refine cps fun Q hQ => ?_
  go_enter Tryz.func17, Tryz.ntmps17
  go_wp2_with (go_at_call 32; refine (k1 _).mono ?_; rintro e w1 ⟨rfl, hb1⟩; have hc := fun b o h => hb1.cell (p := ⟨b, o, none⟩) h; have hf := fun b o h => hb1.frozen (p := ⟨b, o, none⟩) h; have hz := hb1.size; simp at hz; have hz' : w.heap.size < w1.heap.size := hz)
  refine bodyPost_ret (v := .tuple #[numV 0 false 0 0, codeV 2]) (by simp [results, Tryz.results17, go_sem, hc, hz', numV]) rfl (hQ.out _ _ ⟨rfl, ?_⟩)
  exact cset4 (cthen (cmore (Below.refl _ _) _) hb1) (Nat.le_refl _)
theorem word_frac (t : List Bool) (h : (restL t).length ≤ 63) : wordL t = 9223372036854775808 + fracL t * 2 ^ (63 - ((restL t).length - 2)) ∧ fracL t * 2 ^ (63 - ((restL t).length - 2)) < 9223372036854775808 := by
  have hl : ((restL t).drop 2).length = (restL t).length - 2 := by rw [List.length_drop]
  have e : ((restL t).drop 2 ++ noughts 63).take 63 = (restL t).drop 2 ++ noughts (63 - ((restL t).length - 2)) := by
    rw [List.take_append, List.take_of_length_le (by omega), take_noughts _ _ (by omega), hl]
  have h2 := numOf_lt ((restL t).drop 2 ++ noughts (63 - ((restL t).length - 2)))
  have h3 : ((restL t).drop 2 ++ noughts (63 - ((restL t).length - 2))).length = 63 := by
    rw [List.length_append, hl, List.length_replicate]; omega
  rw [h3, numOf_append, numOf_noughts, List.length_replicate] at h2
  refine ⟨?_, h2⟩
  unfold wordL fracL
  rw [e, numOf_cons, h3, numOf_append, numOf_noughts, List.length_replicate]
  rfl
theorem word_or (X : Nat) (h : X < 9223372036854775808) : bits BinOp.or IntKind.u64 9223372036854775808 (X : Int) = ((9223372036854775808 + X : Nat) : Int) := by
  have := u64_or_nat 9223372036854775808 X (by decide) (by omega)
  rw [show ((9223372036854775808 : Nat) : Int) = 9223372036854775808 from rfl] at this
  rw [this]
  congr 1
  have e := Nat.two_pow_add_eq_or_of_lt (i := 63) (b := X) h 1
  rw [show 2 ^ 63 * 1 = 9223372036854775808 by decide] at e
  exact e.symm
set_option maxHeartbeats 1000000 in
theorem cdecode_real (n x : Nat) (hn : Wd n) (hx : x < 2 ^ 64) (hk : kindOf n (x % 2 ^ n) = 1) (w : World) :
    Calls Tryz.prog 17 #[.int .i64 n, .int .u64 x] w fun e w' => e = .returned (.tuple #[numV 1 (x.testBit (n - 1)) (scaleL (strS n x)) (wordL (strS n x)), .nilIface]) ∧ Below w.heap.size w w' := by
  have k1 := kind_ok n x hn hx
  have k2 := csplit_real n x hn hx hk
  rw [hk] at k1
  have hw := wd_le hn
  have hlen := strS_length n x
  obtain ⟨hw1, hw2⟩ := word_frac (strS n x) (by rw [restL_length, hlen]; omega)
  have hfb : (restL (strS n x)).length - 2 ≤ 61 := by rw [restL_length, hlen]; omega
  have hrg : -64 ≤ regL (strS n x) ∧ regL (strS n x) ≤ 64 := by
    have := runL_le (strS n x)
    unfold regL; split <;> omega
  have hex : expL (strS n x) < 4 := by
    have := numOf_lt ((restL (strS n x) ++ noughts 2).take 2)
    rw [show ((restL (strS n x) ++ noughts 2).take 2).length = 2 by simp] at this
    exact this
  unfold fdV at k2
  unfold scaleL
  have hor := word_or _ hw2
  rw [← hw1] at hor
  obtain ⟨d, hd⟩ : ∃ d, d = 63 - ((restL (strS n x)).length - 2) := ⟨_, rfl⟩
  rw [← hd] at hor hw2
  have hdd : (63 : Int) - (((restL (strS n x)).length - 2 : Nat) : Int) = (d : Int) := by omega
  have hd63 : d ≤ 63 := by omega
  clear hn hx hk hlen hw hw1 hd
  generalize onesL (strS n x) = o at *
  generalize runL (strS n x) = r at *
  generalize regL (strS n x) = reg at *
  generalize expL (strS n x) = ex at *
  generalize fracL (strS n x) = fr at *
  generalize wordL (strS n x) = wd at *
  generalize (restL (strS n x)).length - 2 = fb at *
  generalize min (restL (strS n x)).length 2 = eb at *
  have hsc : IntKind.i64.wrap (IntKind.i64.wrap (reg * 4) + (ex : Int)) = 4 * reg + ex := by
    rw [wrapI (n := reg * 4) (by omega), wrapI (by omega)]; omega
  have hsh : IntKind.u64.wrap ((fr : Int) * 2 ^ d) = ((fr * 2 ^ d : Nat) : Int) := by
    have e : ((fr : Int) * 2 ^ d) = ((fr * 2 ^ d : Nat) : Int) := by simp
    rw [e, wrapN, Nat.mod_eq_of_lt (by omega)]
  generalize fr * 2 ^ d = X at *
  refine cps fun Q hQ => ?_
  generalize x.testBit (n - 1) = b at *
  go_enter Tryz.func17, Tryz.ntmps17
  go_wp2_with (first
    | (go_at_call 32; refine (k1 _).mono ?_; rintro e w1 ⟨rfl, hb1⟩; have HB1 : Hid (Below _ _ _) := hb1; clear hb1)
    | (go_at_call 33; refine (k2 _).mono ?_; rintro e w2 ⟨rfl, hb2⟩; have z1 : w.heap.size < w1.heap.size := (by have := HB1.out.size; simp at this; omega); have z2 := hb2.size; have R0 := (Below.heap_alloc w2 (.cells #[.bool b, .bool o, .int .i64 r, .int .i64 reg, .int .i64 (eb : Nat), .int .i64 ex, .int .i64 (fb : Nat), .int .u64 fr] 64) _ (by omega)).trans ((hb2.block _ z1).trans ((HB1.out.block _ (by simp)).trans (rownew w _ _))); have BW : Hid (Below _ _ _) := cmore (cthen (cthen (cmore (Below.refl _ _) _) HB1.out) hb2) (.cells #[.bool b, .bool o, .int .i64 r, .int .i64 reg, .int .i64 (eb : Nat), .int .i64 ex, .int .i64 (fb : Nat), .int .u64 fr] 64); have z3 : w.heap.size < w2.heap.size := (by omega); clear hb2 z2; have HR0 : Hid _ := R0; clear R0))
  obtain ⟨g, hg⟩ : ∃ g, g = w2.heap.size := ⟨_, rfl⟩
  have RF := rownew' w2 #[.bool b, .bool o, .int .i64 r, .int .i64 reg, .int .i64 (eb : Nat), .int .i64 ex, .int .i64 (fb : Nat), .int .u64 fr] 64 g hg
  rw [← hg]
  generalize w2.alloc (.cells #[.bool b, .bool o, .int .i64 r, .int .i64 reg, .int .i64 (eb : Nat), .int .i64 ex, .int .i64 (fb : Nat), .int .u64 fr] 64) = W at *
  have x0 := rowcell RF 0
  have x3 := rowcell RF 3
  have x5 := rowcell RF 5
  have x6 := rowcell RF 6
  have x7 := rowcell RF 7
  have b0 := rowcell HR0.out 0
  have b1 := rowcell HR0.out 1
  have b2 := rowcell HR0.out 2
  have b3 := rowcell HR0.out 3
  have bf := rowfree HR0.out
  simp only [List.getElem?_toArray, List.getElem?_cons_zero, List.getElem?_cons_succ] at x0 x3 x5 x6 x7 b0 b1 b2 b3
  have gw : IntKind.i64.wrap (63 - (fb : Int)) = (d : Int) := by rw [wrapI (by omega), hdd]
  have hgw : w.heap.size ≠ g := by omega
  have hab : ∀ o o' : Nat, (⟨w.heap.size, o, none⟩ : Addr) ≠ ⟨g, o', none⟩ := fun o o' e => hgw (congrArg Addr.block e)
  have far : ∀ (W1 : World) (u0 u1 u2 u3 : Value) (o : Nat), ((((W1.setCell ⟨w.heap.size, 0, none⟩ u0).setCell ⟨w.heap.size, 1, none⟩ u1).setCell ⟨w.heap.size, 2, none⟩ u2).setCell ⟨w.heap.size, 3, none⟩ u3).drew.cell? ⟨g, o, none⟩ = W1.cell? ⟨g, o, none⟩ := fun W1 u0 u1 u2 u3 o => by
    show ((((W1.setCell ⟨w.heap.size, 0, none⟩ u0).setCell ⟨w.heap.size, 1, none⟩ u1).setCell ⟨w.heap.size, 2, none⟩ u2).setCell ⟨w.heap.size, 3, none⟩ u3).cell? ⟨g, o, none⟩ = W1.cell? ⟨g, o, none⟩
    rw [World.cell?_setCell_other _ _ _ _ (hab _ _), World.cell?_setCell_other _ _ _ _ (hab _ _), World.cell?_setCell_other _ _ _ _ (hab _ _), World.cell?_setCell_other _ _ _ _ (hab _ _)]
  clear k1 k2 hg hdd
  have gd : (0 : Int) ≤ (d : Int) := Int.natCast_nonneg d
  refine wpC_region (fun W => W.cell? ⟨g, 0, none⟩ = some (.bool b) ∧ W.cell? ⟨g, 3, none⟩ = some (.int .i64 reg) ∧ W.cell? ⟨g, 5, none⟩ = some (.int .i64 ex) ∧ W.cell? ⟨g, 6, none⟩ = some (.int .i64 (fb : Nat)) ∧ W.cell? ⟨g, 7, none⟩ = some (.int .u64 fr)) (by kernel_rfl) ?_
  refine wpC_take 0 (v := ?_) rfl (by kernel_rfl) (fun _ _ _ h => h) (by kernel_rfl) ?_ ?_; rotate_left; · (intro wC hC; obtain ⟨c0, c3, c5, c6, c7⟩ := hC; go_simp <;> with_reducible rfl)
  refine wpC_take 1 (v := ?_) rfl (by kernel_rfl) (fun _ _ _ h => h) (by kernel_rfl) ?_ ?_; rotate_left; · (intro wC hC; obtain ⟨c0, c3, c5, c6, c7⟩ := hC; go_simp <;> with_reducible rfl)
  refine wpC_take 2 (v := ?_) rfl (by kernel_rfl) (fun _ _ _ h => h) (by kernel_rfl) ?_ ?_; rotate_left; · (intro wC hC; obtain ⟨c0, c3, c5, c6, c7⟩ := hC; go_simp <;> with_reducible rfl)
  refine wpC_take 3 (v := ?_) rfl (by kernel_rfl) (fun _ _ _ h => h) (by kernel_rfl) ?_ ?_; rotate_left; · (intro wC hC; obtain ⟨c0, c3, c5, c6, c7⟩ := hC; go_simp <;> with_reducible rfl)
  refine wpC_take 4 (v := ?_) rfl (by kernel_rfl) (fun _ _ _ h => h) (by kernel_rfl) ?_ ?_; rotate_left; · (intro wC hC; obtain ⟨c0, c3, c5, c6, c7⟩ := hC; go_simp <;> with_reducible rfl)
  refine wpC_take 5 (v := ?_) rfl (by kernel_rfl) (fun _ _ _ h => h) (by kernel_rfl) ?_ ?_; rotate_left; · (intro wC hC; obtain ⟨c0, c3, c5, c6, c7⟩ := hC; go_simp <;> with_reducible rfl)
  refine wpC_take 6 (v := ?_) rfl (by kernel_rfl) (fun _ _ _ h => h) (by kernel_rfl) ?_ ?_; rotate_left; · (intro wC hC; obtain ⟨c0, c3, c5, c6, c7⟩ := hC; go_simp <;> with_reducible rfl)
  refine wpC_take 7 (v := ?_) rfl (by kernel_rfl) (fun _ _ _ h => h) (by kernel_rfl) ?_ ?_; rotate_left; · (intro wC hC; obtain ⟨c0, c3, c5, c6, c7⟩ := hC; go_simp <;> with_reducible rfl)
  refine wpC_take 8 (v := ?_) rfl (by kernel_rfl) (fun _ _ _ h => h) (by kernel_rfl) ?_ ?_; rotate_left; · (intro wC hC; obtain ⟨c0, c3, c5, c6, c7⟩ := hC; go_simp <;> with_reducible rfl)
  refine wpC_take 9 (v := ?_) rfl (by kernel_rfl) (fun _ _ _ h => h) (by kernel_rfl) ?_ ?_; rotate_left; · (intro wC hC; obtain ⟨c0, c3, c5, c6, c7⟩ := hC; go_simp <;> with_reducible rfl)
  refine wpC_take 10 (v := ?_) rfl (by kernel_rfl) (fun _ _ _ h => h) (by kernel_rfl) ?_ ?_; rotate_left; · (intro wC hC; obtain ⟨c0, c3, c5, c6, c7⟩ := hC; go_simp <;> with_reducible rfl)
  refine wpC_take 11 (v := ?_) rfl (by kernel_rfl) (fun _ _ _ h => h) (by kernel_rfl) ?_ ?_; rotate_left; · (intro wC hC; obtain ⟨c0, c3, c5, c6, c7⟩ := hC; go_simp <;> with_reducible rfl)
  refine wpC_take 12 (v := ?_) rfl (by kernel_rfl) (fun _ _ _ h => h) (by kernel_rfl) ?_ ?_; rotate_left; · (intro wC hC; obtain ⟨c0, c3, c5, c6, c7⟩ := hC; go_simp <;> with_reducible rfl)
  refine wpC_take 13 (v := ?_) rfl (by kernel_rfl) (fun _ _ _ h => h) (by kernel_rfl) ?_ ?_; rotate_left; · (intro wC hC; obtain ⟨c0, c3, c5, c6, c7⟩ := hC; go_simp <;> with_reducible rfl)
  refine wpC_take 14 (v := ?_) rfl (by kernel_rfl) (fun _ _ _ h => h) (by kernel_rfl) ?_ ?_; rotate_left; · (intro wC hC; obtain ⟨c0, c3, c5, c6, c7⟩ := hC; go_simp <;> with_reducible rfl)
  refine wpC_take 15 (v := ?_) rfl (by kernel_rfl) (fun _ _ _ h => h) (by kernel_rfl) ?_ ?_; rotate_left; · (intro wC hC; obtain ⟨c0, c3, c5, c6, c7⟩ := hC; go_simp <;> with_reducible rfl)
  refine wpC_step 16 rfl (by kernel_rfl) (by kernel_rfl) ⟨x0, x3, x5, x6, x7⟩ (fun K hK => ?_)
  go_simp
  try (refine hK _ _ ?_; clear hK K)
  refine wpC_take 17 (v := ?_) rfl (by kernel_rfl) (fun _ _ _ h => h) (by kernel_rfl) ?_ ?_; rotate_left; · (intro wC hC; obtain _ := hC; go_simp <;> with_reducible rfl)
  refine wpC_done (by kernel_rfl) ⟨(far _ _ _ _ _ _).trans x0, (far _ _ _ _ _ _).trans x3, (far _ _ _ _ _ _).trans x5, (far _ _ _ _ _ _).trans x6, (far _ _ _ _ _ _).trans x7⟩ ?_
  go_wp2
  refine bodyPost_ret (v := .tuple #[numV 1 b (4 * reg + ex) wd, .nilIface]) (by simp [results, Tryz.results17, go_sem, b0, b1, b2, b3, numV]) rfl (hQ.out _ _ ⟨rfl, ?_⟩)
  exact cdrew (cset4 BW.out (Nat.le_refl _))
end Go.Proofs.YtheliihkkoohnaaGreat

namespace Go.Proofs.YtheliihkkoohnaaGreat
open Go.ChangeShapes Go.WideShapes Go.ChangeAt Go.RowKit
set_option linter.unusedVariables false
set_option linter.unusedSimpArgs false
set_option maxRecDepth 100000

/-! ### what is assembled -/
/-! ### parts -/
end Go.Proofs.YtheliihkkoohnaaGreat

namespace Go.Proofs.YtheliihkkoohnaaGreat
open Go.ChangeShapes Go.WideShapes Go.ChangeAt Go.RowKit
set_option linter.unusedVariables false
set_option linter.unusedSimpArgs false
set_option maxRecDepth 100000

/-! ### what a width is -/
theorem bmoreS {a w : World} (h : Below a.heap.size a w) (o : Obj) : Below a.heap.size a (w.alloc o) := h.alloc h.size o
theorem bthenS {a W w : World} (h : Below a.heap.size a W) (hb : Below W.heap.size W w) : Below a.heap.size a w := h.trans (hb.mono h.size)
theorem bsetS {a W : World} {b : Nat} (h : Below a.heap.size a W) (hb : a.heap.size ≤ b) (o : Nat) (v : Value) : Below a.heap.size a (W.setCell ⟨b, o, none⟩ v) := h.setCell hb _
def shp (n m : Nat) : Value := .agg #[.int .i64 n, .int .u64 (m - 1 : Nat), .int .u64 1, .int .u64 m, .int .i64 (4 * n - 8 : Nat)]
theorem two_pow_lt {n : Nat} (h : Wd n) : 1 ≤ 2 ^ (n - 1) ∧ 2 ^ (n - 1) ≤ 9223372036854775808 := by rcases h with rfl | rfl | rfl | rfl <;> decide
theorem of_ok (n : Nat) (hn : Wd n) (w : World) :
    Calls Tryz.prog 68 #[.int .i64 n] w fun e w' => e = .returned (.tuple #[shp n (2 ^ (n - 1)), .nilIface]) ∧ Below w.heap.size w w' := by
  have k1 := known_any n
  rw [isW_of hn] at k1
  have hw := wd_le hn
  have k2 := nar_any n (by omega) hw.2
  have hm := two_pow_lt hn
  clear hn
  refine cps fun Q hQ => ?_
  generalize 2 ^ (n - 1) = m at *
  have e1 : (m : Int) - 1 = ((m - 1 : Nat) : Int) := by omega
  have e2 : 4 * (n : Int) - 8 = ((4 * n - 8 : Nat) : Int) := by omega
  go_enter Tryz.func68, Tryz.ntmps68
  go_wp2_with (first
    | (go_at_call 70; refine (k1 _).mono ?_; rintro e w1 ⟨rfl, hb1⟩; have hc := fun b o h => hb1.cell (p := ⟨b, o, none⟩) h; have hf := fun b o h => hb1.frozen (p := ⟨b, o, none⟩) h; have hz := hb1.size; simp at hz)
    | (go_at_call 56; refine (k2 _).mono ?_; rintro e w1 ⟨rfl, rfl⟩))
  have hz' : w.heap.size < w1.heap.size := hz
  refine bodyPost_ret (v := .tuple #[shp n m, .nilIface]) (by simp [results, Tryz.results68, go_sem, hc, hz', shp]) rfl (hQ.out _ _ ⟨rfl, ?_⟩)
  exact bsetS (bsetS (bsetS (bsetS (bsetS (bthenS (bmoreS (Below.refl _ _) _) hb1) (Nat.le_refl _) _ _) (Nat.le_refl _) _ _) (Nat.le_refl _) _ _) (Nat.le_refl _) _ _) (Nat.le_refl _) _ _
end Go.Proofs.YtheliihkkoohnaaGreat

namespace Go.Proofs.YtheliihkkoohnaaGreat
open Go.ChangeShapes Go.WideShapes Go.ChangeAt Go.RowKit
set_option linter.unusedVariables false
set_option linter.unusedSimpArgs false
set_option maxRecDepth 100000

/-! ### Join -/
end Go.Proofs.YtheliihkkoohnaaGreat

namespace Go.Proofs.YtheliihkkoohnaaGreat
open Go.ChangeShapes Go.WideShapes Go.ChangeAt Go.RowKit
set_option linter.unusedVariables false
set_option linter.unusedSimpArgs false
set_option maxRecDepth 100000

/-! ### sound -/
end Go.Proofs.YtheliihkkoohnaaGreat

namespace Go.Proofs.YtheliihkkoohnaaGreat
open Go.ChangeShapes Go.WideShapes Go.ChangeAt Go.RowKit
set_option linter.unusedVariables false
set_option linter.unusedSimpArgs false
set_option maxRecDepth 100000

/-! ### Encode -/
end Go.Proofs.YtheliihkkoohnaaGreat

namespace Go.Proofs.YtheliihkkoohnaaGreat
set_option maxRecDepth 100000
/-! ### the contracts of package codec stand in CkE (Split), CkF (Decode), CkH (Join), CkI (Encode) -/
end Go.Proofs.YtheliihkkoohnaaGreat

namespace Go.Proofs.YtheliihkkoohnaaGreat
open Go.ChangeShapes Go.WideShapes Go.ChangeAt Go.RowKit
set_option linter.unusedVariables false
set_option linter.unusedSimpArgs false
set_option maxRecDepth 100000

end Go.Proofs.YtheliihkkoohnaaGreat

namespace Go.Proofs.YtheliihkkoohnaaGreat
set_option maxRecDepth 100000
set_option linter.unusedVariables false
set_option linter.unusedSimpArgs false

/-! ### patterns come back (plain mathematics) -/
theorem inR_of (m : Nat) (t : List Bool) (hm : Wd m) (hl : t.length = m - 1) (ht : true ∈ t) : inR m (scaleL t) = true := by
  have hw := wd_le hm
  have hne : t ≠ [] := by rintro rfl; cases ht
  have hex : expL t < 4 := by
    have := numOf_lt ((restL t ++ noughts 2).take 2)
    rw [show ((restL t ++ noughts 2).take 2).length = 2 by simp] at this
    exact this
  refine decide_eq_true ?_
  obtain ⟨b, r, tl, rfl, htl⟩ := split_run t hne
  rw [List.length_append, List.length_replicate] at hl
  unfold scaleL regL
  rw [runL_rep b r tl htl, onesL_rep]
  rcases htl with rfl | ⟨u, rfl⟩
  · rw [List.append_nil] at *
    have hb : b = true := (List.mem_replicate.1 ht).2.symm
    subst hb
    have h0 : expL (List.replicate (r + 1) true) = 0 := by
      unfold expL; rw [restL_end]; decide
    rw [h0]
    simp at hl ⊢; omega
  · rw [List.length_cons] at hl
    generalize expL (List.replicate (r + 1) b ++ (!b) :: u) = ex at *
    cases b <;> simp <;> omega
theorem sound_home (m : Nat) (neg : Bool) (t : List Bool) (hm : Wd m) (hl : t.length = m - 1) (ht : true ∈ t) : soundN 1 neg (scaleL t) (wordL t) = true := by
  have hw := wd_le hm
  have h1 := of_decide_eq_true (inR_of m t hm hl ht)
  have h2 := wordL_bounds t
  unfold soundN
  rw [if_neg (by decide)]
  exact decide_eq_true ⟨rfl, h2.1, by omega, by omega⟩
theorem kind_cases (m y : Nat) (hk : kindOf m y ≠ 1) : (kindOf m y = 0 ∧ y = 0) ∨ (kindOf m y = 2 ∧ y = 2 ^ (m - 1)) := by
  unfold kindOf at *
  by_cases h : y = 0
  · rw [if_pos h] at *; exact .inl ⟨rfl, h⟩
  · rw [if_neg h] at *
    by_cases h2 : y = 2 ^ (m - 1)
    · rw [if_pos h2] at *; exact .inr ⟨rfl, h2⟩
    · rw [if_neg h2] at *; exact absurd rfl hk
end Go.Proofs.YtheliihkkoohnaaGreat

namespace Go.Proofs.YtheliihkkoohnaaGreat
set_option maxRecDepth 100000
set_option linter.unusedVariables false
set_option linter.unusedSimpArgs false

/-! ### noughts behind a pattern (plain mathematics) -/
end Go.Proofs.YtheliihkkoohnaaGreat

namespace Go.Proofs.YtheliihkkoohnaaGreat
set_option maxRecDepth 100000
set_option linter.unusedVariables false
set_option linter.unusedSimpArgs false

/-! ### the string of an exact number as one natural number of 209 bits: it rises with the number (plain mathematics) -/
def hdA (k : Int) : Nat := if 0 ≤ k then 2 ^ 80 - 2 ^ (79 - k.toNat) else 2 ^ (79 - (-k).toNat)
def hdS (k : Int) : Nat := if 0 ≤ k then 2 ^ (78 - k.toNat) else 2 ^ (79 - (-k).toNat)
/-- e and the digits behind the first -/
def tailN (s : Int) (M : Nat) : Nat := (s % 4).toNat * 2 ^ 127 + (M - 2 ^ 127)
def zed (s : Int) (M : Nat) : Nat := hdA (s / 4) * 2 ^ 129 + hdS (s / 4) * tailN s M
def Mant (M : Nat) : Prop := 2 ^ 127 ≤ M ∧ M < 2 ^ 128
theorem tail_lt (s : Int) (M : Nat) (h : Mant M) : tailN s M < 2 ^ 129 := by
  obtain ⟨h1, h2⟩ := h
  unfold tailN
  have : (s % 4).toNat < 4 := by omega
  generalize (s % 4).toNat = e at *
  omega
theorem numOf_ones (k : Nat) : numOf (List.replicate k true) = 2 ^ k - 1 := by
  induction k with
  | zero => rfl
  | succ k ih =>
    rw [List.replicate_succ, numOf_cons, ih, List.length_replicate, Nat.pow_succ]
    have : 0 < 2 ^ k := Nat.pow_pos (by decide)
    simp; omega
/-- the string, written out, is that number -/
theorem zed_str (s : Int) (M : Nat) (D : List Bool) (hD : D.length = 127) (hM : numOf D = M - 2 ^ 127) (h1 : -76 * 4 ≤ s) (h2 : s < 76 * 4) :
    (headK (s / 4) ++ bitsOf (s % 4).toNat 2 ++ D).length ≤ 209 ∧ numOf (headK (s / 4) ++ bitsOf (s % 4).toNat 2 ++ D) * 2 ^ (209 - (headK (s / 4) ++ bitsOf (s % 4).toNat 2 ++ D).length) = zed s M := by
  have hl : (headK (s / 4) ++ bitsOf (s % 4).toNat 2 ++ D).length = (headK (s / 4)).length + 129 := by simp [bitsOf_length, hD]
  have hn : numOf (headK (s / 4) ++ bitsOf (s % 4).toNat 2 ++ D) = numOf (headK (s / 4)) * 2 ^ 129 + tailN s M := by
    rw [numOf_append, numOf_append, numOf_bits, hD, bitsOf_length, hM, Nat.mod_eq_of_lt (a := (s % 4).toNat) (by omega), Nat.add_mul, Nat.mul_assoc, ← Nat.pow_add]
    unfold tailN; omega
  rw [hl, hn]
  have hh : numOf (headK (s / 4)) * 2 ^ (80 - (headK (s / 4)).length) = hdA (s / 4) ∧ 2 ^ (80 - (headK (s / 4)).length) = hdS (s / 4) ∧ (headK (s / 4)).length ≤ 80 := by
    unfold headK hdA hdS
    by_cases h0 : 0 ≤ s / 4
    · rw [if_pos h0, if_pos h0, if_pos h0]
      obtain ⟨j, hj⟩ := Int.eq_ofNat_of_zero_le h0
      rw [hj, Int.toNat_natCast]
      have hj2 : j < 76 := by omega
      rw [numOf_append, numOf_ones, List.length_append, List.length_replicate]
      simp only [List.length_singleton]
      refine ⟨?_, by congr 1; omega, by omega⟩
      have e1 : numOf [false] = 0 := rfl
      rw [e1, Nat.add_zero, Nat.pow_one, show 80 - (j + 1 + 1) = 78 - j by omega, Nat.mul_assoc, ← Nat.pow_succ', show (78 - j).succ = 79 - j by omega, Nat.sub_mul, ← Nat.pow_add, show j + 1 + (79 - j) = 80 by omega, Nat.one_mul]
    · rw [if_neg h0, if_neg h0, if_neg h0]
      have hj2 : (-(s / 4)).toNat ≤ 76 := by omega
      rw [numOf_append, List.length_append, List.length_replicate]
      simp only [List.length_singleton]
      have e0 := numOf_noughts (-(s / 4)).toNat
      refine ⟨?_, by congr 1; omega, by omega⟩
      rw [show List.replicate (-(s / 4)).toNat false = noughts (-(s / 4)).toNat from rfl, e0, show 80 - ((-(s / 4)).toNat + 1) = 79 - (-(s / 4)).toNat by omega, show numOf [true] = 1 from rfl]
      simp
  obtain ⟨a, b, c⟩ := hh
  refine ⟨by omega, ?_⟩
  rw [show 209 - ((headK (s / 4)).length + 129) = 80 - (headK (s / 4)).length by omega, Nat.add_mul, Nat.mul_right_comm, a, b, Nat.mul_comm (tailN s M)]
  rfl
end Go.Proofs.YtheliihkkoohnaaGreat

namespace Go.Proofs.YtheliihkkoohnaaGreat
set_option maxRecDepth 100000
set_option linter.unusedVariables false
set_option linter.unusedSimpArgs false

/-! ### what is left behind a cut, and rounding: to the nearer, of a tie to the even one (plain mathematics) -/
def leftL (l : List Bool) (rest : Bool) : Nat :=
  if l.getD 0 false then (if (l.drop 1).any id || rest then 3 else 2) else (if (l.drop 1).any id || rest then 1 else 0)
def roundP (P left : Nat) : Nat := if left = 3 ∨ (left = 2 ∧ P % 2 = 1) then P + 1 else P
/-- P times 2 H and R: to the nearer -/
def rhe (H Z : Nat) : Nat := roundP (Z / (2 * H)) (if Z % (2 * H) = 0 then 0 else if Z % (2 * H) < H then 1 else if Z % (2 * H) = H then 2 else 3)
theorem roundP_le (P l : Nat) : P ≤ roundP P l ∧ roundP P l ≤ P + 1 := by unfold roundP; split <;> omega
/-! ### a string, cut -/
theorem any_num (l : List Bool) : l.any id = decide (numOf l ≠ 0) := by
  cases h : l.any id
  · refine (decide_eq_false fun hn => ?_).symm
    have := mem_of_pos l hn
    rw [List.any_eq_false] at h
    exact h true this rfl
  · refine (decide_eq_true ?_).symm
    obtain ⟨b, hb, hb2⟩ := List.any_eq_true.1 h
    have : b = true := hb2
    subst this
    have := numOf_pos l hb
    omega
theorem cut_num (l : List Bool) (m : Nat) (hm : m ≤ l.length) : numOf l = numOf (l.take m) * 2 ^ (l.length - m) + numOf (l.drop m) := by
  conv => lhs; rw [← List.take_append_drop m l]
  rw [numOf_append, List.length_drop]
/-- the first m bits, and what is left, of a string that is followed by noughts, and perhaps by something more -/
theorem cut_left (l : List Bool) (m : Nat) (rest : Bool) (hm : m < l.length) (hl : l.length ≤ 209) :
    roundP (numOf (l.take m)) (leftL (l.drop m) rest) = rhe (2 ^ (209 - m)) (2 * (numOf l * 2 ^ (209 - l.length)) + rest.toNat) := by
  have hc := cut_num l m (by omega)
  have hd : (l.drop m).length = l.length - m := List.length_drop ..
  have hlt := numOf_lt (l.drop m)
  rw [hd] at hlt
  cases hs : l.drop m with
  | nil => rw [hs] at hd; simp at hd; omega
  | cons b t =>
    rw [hs] at hd hlt hc
    have ht : t.length = l.length - m - 1 := by simp at hd; omega
    have htl := numOf_lt t
    rw [numOf_cons, ht] at hc hlt
    rw [ht] at htl
    -- powers
    have p1 : 2 ^ (l.length - m) = 2 * 2 ^ (l.length - m - 1) := by rw [← Nat.pow_succ']; congr 1; omega
    have p2 : 2 ^ (209 - m) = 2 ^ (l.length - m) * 2 ^ (209 - l.length) := by rw [← Nat.pow_add]; congr 1; omega
    have p3 : 0 < 2 ^ (l.length - m - 1) := Nat.pow_pos (by decide)
    have p4 : 0 < 2 ^ (209 - l.length) := Nat.pow_pos (by decide)
    rw [hc, p2, p1]
    rw [p1] at hlt
    have hany := any_num t
    unfold leftL
    rw [show (b :: t).getD 0 false = b from rfl, show (b :: t).drop 1 = t from rfl, hany]
    generalize numOf (l.take m) = P at *
    generalize 2 ^ (l.length - m - 1) = A at *
    generalize 2 ^ (209 - l.length) = C at *
    generalize numOf t = V at *
    -- the number is P times 2 H and R
    have hVC : V * C + C ≤ A * C := by rw [← Nat.succ_mul]; exact Nat.mul_le_mul_right _ htl
    have hV0 : V = 0 ∨ C ≤ V * C := by
      rcases Nat.eq_zero_or_pos V with h | h
      · exact .inl h
      · exact .inr (Nat.le_mul_of_pos_left _ h)
    have hAC : 0 < A * C := Nat.mul_pos p3 p4
    have hZ : 2 * ((P * (2 * A) + (b.toNat * A + V)) * C) + rest.toNat = P * (2 * (2 * A * C)) + (2 * (b.toNat * (A * C) + V * C) + rest.toNat) := by
      rw [Nat.add_mul, Nat.add_mul, Nat.mul_assoc b.toNat, Nat.mul_add, ← Nat.mul_assoc 2 (P * (2 * A)) C]
      have : 2 * (P * (2 * A)) * C = P * (2 * (2 * A * C)) := by
        simp only [Nat.mul_assoc, Nat.mul_left_comm]
      rw [this]; omega
    have hR : 2 * (b.toNat * (A * C) + V * C) + rest.toNat < 2 * (2 * A * C) := by
      rw [Nat.mul_assoc 2 A C]
      generalize A * C = D at *
      generalize V * C = E at *
      cases b <;> cases rest <;> simp <;> omega
    rw [hZ]
    unfold rhe
    have hpos : 0 < 2 * (2 * A * C) := by omega
    rw [Nat.mul_comm P, Nat.mul_add_div hpos, Nat.div_eq_of_lt hR, Nat.add_zero, Nat.mul_add_mod, Nat.mod_eq_of_lt hR]
    rw [Nat.mul_assoc 2 A C]
    congr 1
    generalize A * C = D at *
    rcases hV0 with rfl | hV0
    · cases b <;> cases rest <;> simp <;> (try omega)
      all_goals (repeat' split) <;> omega
    · have hne : V ≠ 0 := by rintro rfl; omega
      generalize hE : V * C = E at *
      cases b <;> cases rest <;> simp [hne] <;> (try omega)
      all_goals (repeat' split) <;> omega
end Go.Proofs.YtheliihkkoohnaaGreat

namespace Go.Proofs.YtheliihkkoohnaaGreat
set_option maxRecDepth 100000
set_option linter.unusedVariables false
set_option linter.unusedSimpArgs false

/-! ### an exact number's string, cut and rounded (plain mathematics) -/
def digX (hi lo : Nat) : List Bool := (bitsOf hi 64).drop 1 ++ bitsOf lo 64
def strX (s : Int) (hi lo : Nat) : List Bool := headK (s / 4) ++ bitsOf (s % 4).toNat 2 ++ digX hi lo
def manX (hi lo : Nat) : Nat := hi * 18446744073709551616 + lo
structure WordsX (hi lo : Nat) : Prop where
  top : 9223372036854775808 ≤ hi
  hi64 : hi < 18446744073709551616
  lo64 : lo < 18446744073709551616
theorem WordsX.mant {hi lo : Nat} (h : WordsX hi lo) : Mant (manX hi lo) := by
  obtain ⟨a, b, c⟩ := h
  unfold Mant manX
  have e1 : (2 : Nat) ^ 127 = 9223372036854775808 * 18446744073709551616 := by decide
  have e2 : (2 : Nat) ^ 128 = 18446744073709551616 * 18446744073709551616 := by decide
  omega
theorem digX_length (hi lo : Nat) : (digX hi lo).length = 127 := by simp [digX, bitsOf_length]
theorem digX_num {hi lo : Nat} (h : WordsX hi lo) : numOf (digX hi lo) = manX hi lo - 2 ^ 127 := by
  obtain ⟨a, b, c⟩ := h
  have h1 := top_word hi a b
  have h2 : numOf (bitsOf hi 64) = hi := by rw [numOf_bits]; exact Nat.mod_eq_of_lt b
  rw [h1, numOf_cons] at h2
  have h3 : ((bitsOf hi 64).drop 1).length = 63 := by rw [List.length_drop, bitsOf_length]
  rw [h3] at h2
  have h4 : numOf (bitsOf lo 64) = lo := by rw [numOf_bits]; exact Nat.mod_eq_of_lt c
  unfold digX manX
  rw [numOf_append, bitsOf_length, h4]
  have e1 : (2 : Nat) ^ 127 = 9223372036854775808 * 18446744073709551616 := by decide
  have e2 : (2 : Nat) ^ 64 = 18446744073709551616 := by decide
  have e3 : (2 : Nat) ^ 63 = 9223372036854775808 := by decide
  rw [e3] at h2
  simp only [Bool.toNat_true, Nat.one_mul] at h2
  generalize numOf ((bitsOf hi 64).drop 1) = x at *
  rw [e1, e2]
  omega
/-- is nothing left behind the first digit? -/
def justX (hi lo : Nat) (rest : Bool) : Bool := !rest && !(digX hi lo).any id
/-- the scales that are neither at the greatest value nor at the least -/
def midX (n : Nat) (s : Int) (just : Bool) : Prop := s < 4 * n - 8 ∧ 8 - 4 * (n : Int) ≤ s ∧ ¬ (s = 8 - 4 * n ∧ just = true)
def cutX (n : Nat) (s : Int) (hi lo : Nat) (rest : Bool) : Nat × Nat :=
  if 4 * (n : Int) - 8 ≤ s then (2 ^ (n - 1) - 1, 0)
  else if s < 8 - 4 * (n : Int) ∨ (s = 8 - 4 * n ∧ justX hi lo rest = true) then (1, 0)
  else (numOf ((strX s hi lo).take (n - 1)), leftL ((strX s hi lo).drop (n - 1)) rest)
def rndX (n : Nat) (s : Int) (hi lo : Nat) (rest : Bool) : Nat := roundP (cutX n s hi lo rest).1 (cutX n s hi lo rest).2
def zX (s : Int) (hi lo : Nat) (rest : Bool) : Nat := 2 * zed s (manX hi lo) + rest.toNat
theorem numOf_false (t : List Bool) (h : false ∈ t) : numOf t + 2 ≤ 2 ^ t.length := by
  induction t with
  | nil => cases h
  | cons b t ih =>
    rw [numOf_cons, List.length_cons, Nat.pow_succ]
    have hlt := numOf_lt t
    have hp : 0 < 2 ^ t.length := Nat.pow_pos (by decide)
    cases b
    · simp; omega
    · have := ih (by simpa using h)
      simp; omega
theorem strX_mid (n : Nat) (s : Int) (hi lo : Nat) (hn : Wd n) (h1 : s < 4 * n - 8) (h2 : 8 - 4 * (n : Int) ≤ s) :
    true ∈ (strX s hi lo).take (n - 1) ∧ false ∈ (strX s hi lo).take (n - 1) ∧ ((strX s hi lo).take (n - 1)).length = n - 1 ∧ n - 1 < (strX s hi lo).length := by
  have hw := wd_le hn
  have hlen : 128 < (strX s hi lo).length := by
    unfold strX
    obtain ⟨b, r, hh, _⟩ := headK_form (s / 4)
    rw [hh]; simp [bitsOf_length, digX_length]
  have key : ∀ (b : Bool) (j : Nat) (R : List Bool), strX s hi lo = List.replicate (j + 1) b ++ (!b) :: R → j + 1 ≤ n - 2 → true ∈ (strX s hi lo).take (n - 1) ∧ false ∈ (strX s hi lo).take (n - 1) := by
    intro b j R e hj
    rw [e, List.take_append, List.length_replicate, show n - 1 - (j + 1) = (n - 1 - (j + 1) - 1) + 1 by omega, List.take_succ_cons, List.take_of_length_le (by rw [List.length_replicate]; omega)]
    cases b
    · exact ⟨List.mem_append_right _ (List.mem_cons_self ..), List.mem_append_left _ (by simp)⟩
    · exact ⟨List.mem_append_left _ (by simp), List.mem_append_right _ (List.mem_cons_self ..)⟩
  have hk : true ∈ (strX s hi lo).take (n - 1) ∧ false ∈ (strX s hi lo).take (n - 1) := by
    obtain ⟨b, r, hh, hk⟩ := headK_form (s / 4)
    refine key b r (bitsOf (s % 4).toNat 2 ++ digX hi lo) (by unfold strX; rw [hh]; simp) ?_
    cases b <;> simp at hk <;> omega
  exact ⟨hk.1, hk.2, by rw [List.length_take]; omega, by omega⟩
/-- in the middle the rounded pattern is the number's string, rounded -/
theorem rnd_mid (n : Nat) (s : Int) (hi lo : Nat) (rest : Bool) (hn : Wd n) (h : WordsX hi lo) (hm : midX n s (justX hi lo rest)) :
    rndX n s hi lo rest = rhe (2 ^ (210 - n)) (zX s hi lo rest) ∧ 1 ≤ rndX n s hi lo rest ∧ rndX n s hi lo rest ≤ 2 ^ (n - 1) - 1 := by
  have hw := wd_le hn
  obtain ⟨h1, h2, h3⟩ := hm
  obtain ⟨t1, t2, t3, t4⟩ := strX_mid n s hi lo hn h1 h2
  have hc : cutX n s hi lo rest = (numOf ((strX s hi lo).take (n - 1)), leftL ((strX s hi lo).drop (n - 1)) rest) := by
    unfold cutX
    rw [if_neg (by omega), if_neg (by rintro (h | h); omega; exact h3 h)]
  have p1 := numOf_pos _ t1
  have p2 := numOf_false _ t2
  rw [t3] at p2
  obtain ⟨z1, z2⟩ := zed_str s (manX hi lo) (digX hi lo) (digX_length hi lo) (digX_num h) (by omega) (by omega)
  have hcl := cut_left (strX s hi lo) (n - 1) rest t4 z1
  unfold rndX
  rw [hc]
  have hr := roundP_le (numOf ((strX s hi lo).take (n - 1))) (leftL ((strX s hi lo).drop (n - 1)) rest)
  refine ⟨?_, Nat.le_trans p1 hr.1, Nat.le_trans hr.2 (by omega)⟩
  show roundP _ _ = _
  rw [hcl, show 209 - (n - 1) = 210 - n by omega]
  unfold zX strX
  rw [z2]
theorem rnd_range (n : Nat) (s : Int) (hi lo : Nat) (rest : Bool) (hn : Wd n) (h : WordsX hi lo) : 1 ≤ rndX n s hi lo rest ∧ rndX n s hi lo rest ≤ 2 ^ (n - 1) - 1 := by
  obtain ⟨H, e1, e2, e3, _⟩ := wd_pows hn
  by_cases hm : midX n s (justX hi lo rest)
  · exact (rnd_mid n s hi lo rest hn h hm).2
  · unfold rndX cutX
    rw [e2]
    by_cases c1 : 4 * (n : Int) - 8 ≤ s
    · rw [if_pos c1]; simp only [roundP]; simp; omega
    · rw [if_neg c1]
      have c2 : s < 8 - 4 * (n : Int) ∨ (s = 8 - 4 * n ∧ justX hi lo rest = true) := by
        unfold midX at hm
        by_cases c3 : s < 8 - 4 * (n : Int)
        · exact .inl c3
        · refine .inr ?_
          by_cases c4 : s = 8 - 4 * n ∧ justX hi lo rest = true
          · exact c4
          · exact absurd ⟨by omega, by omega, c4⟩ hm
      rw [if_pos c2]; simp only [roundP]; simp; omega
theorem rnd_top (n : Nat) (s : Int) (hi lo : Nat) (rest : Bool) (c : 4 * (n : Int) - 8 ≤ s) : rndX n s hi lo rest = 2 ^ (n - 1) - 1 := by
  unfold rndX cutX; rw [if_pos c]; rfl
theorem rnd_low (n : Nat) (s : Int) (hi lo : Nat) (rest : Bool) (c0 : ¬ 4 * (n : Int) - 8 ≤ s) (c : s < 8 - 4 * (n : Int) ∨ (s = 8 - 4 * n ∧ justX hi lo rest = true)) : rndX n s hi lo rest = 1 := by
  unfold rndX cutX; rw [if_neg c0, if_pos c]; rfl
theorem mid_or (n : Nat) (s : Int) (j : Bool) : midX n s j ∨ 4 * (n : Int) - 8 ≤ s ∨ (¬ 4 * (n : Int) - 8 ≤ s ∧ (s < 8 - 4 * (n : Int) ∨ (s = 8 - 4 * n ∧ j = true))) := by
  unfold midX
  by_cases c1 : 4 * (n : Int) - 8 ≤ s
  · exact .inr (.inl c1)
  · by_cases c3 : s < 8 - 4 * (n : Int)
    · exact .inr (.inr ⟨c1, .inl c3⟩)
    · by_cases c4 : s = 8 - 4 * n ∧ j = true
      · exact .inr (.inr ⟨c1, .inr c4⟩)
      · exact .inl ⟨by omega, by omega, c4⟩
end Go.Proofs.YtheliihkkoohnaaGreat

namespace Go.Proofs.YtheliihkkoohnaaGreat
set_option maxRecDepth 100000
set_option linter.unusedVariables false
set_option linter.unusedSimpArgs false

/-! ### what the program cuts off a number's string, and what it finds behind (plain mathematics) -/
def cmpX (left : Nat) (rest : Bool) : Nat := if left = 2 ^ 127 then (if rest then 3 else 2) else if 2 ^ 127 < left then 3 else if left = 0 ∧ rest = false then 0 else 1
theorem left_num (l : List Bool) (j : Nat) (rest : Bool) (hj : 1 ≤ j) (hj2 : j ≤ 128) (hl : l.length = j + 1) :
    leftL l rest = cmpX (numOf l / 2 * 2 ^ (128 - j)) (decide (numOf l % 2 = 1) || rest) := by
  cases l with
  | nil => simp at hl
  | cons b t =>
    have ht : t.length = j := by simpa using hl
    have hV := numOf_lt t
    rw [ht] at hV
    rw [numOf_cons, ht]
    have hany := any_num t
    unfold leftL cmpX
    rw [show (b :: t).getD 0 false = b from rfl, show (b :: t).drop 1 = t from rfl, hany]
    have p1 : 2 ^ j = 2 * 2 ^ (j - 1) := by rw [← Nat.pow_succ']; congr 1; omega
    have p2 : 2 ^ (j - 1) * 2 ^ (128 - j) = 2 ^ 127 := by rw [← Nat.pow_add]; congr 1; omega
    have p3 : 0 < 2 ^ (128 - j) := Nat.pow_pos (by decide)
    rw [p1] at hV ⊢
    generalize numOf t = V at *
    generalize 2 ^ (j - 1) = A at *
    generalize 2 ^ (128 - j) = C at *
    have hh : (b.toNat * (2 * A) + V) / 2 = b.toNat * A + V / 2 := by cases b <;> simp <;> omega
    have hm : (b.toNat * (2 * A) + V) % 2 = V % 2 := by cases b <;> simp <;> omega
    rw [hh, hm, Nat.add_mul, Nat.mul_assoc b.toNat A C, ← p2]
    have hlt : V / 2 * C < A * C := Nat.mul_lt_mul_of_pos_right (by omega) p3
    have h0 : V / 2 * C = 0 ↔ V / 2 = 0 := by
      constructor
      · intro h; rcases Nat.mul_eq_zero.1 h with h | h <;> omega
      · intro h; rw [h]; simp
    generalize V / 2 * C = X at *
    generalize A * C = D at *
    cases b
    · simp only [Bool.toNat_false, Nat.zero_mul, Nat.zero_add]
      have n1 : ¬ X = D := by omega
      have n2 : ¬ D < X := by omega
      rw [if_neg n1, if_neg n2]
      by_cases hx : X = 0
      · have := h0.1 hx
        rcases Nat.mod_two_eq_zero_or_one V with hv | hv
        · have : V = 0 := by omega
          subst this
          cases rest <;> simp [hx]
        · have : V ≠ 0 := by omega
          cases rest <;> simp [hx, hv, this]
      · have : ¬ V / 2 = 0 := fun h => hx (h0.2 h)
        have : V ≠ 0 := by omega
        cases rest <;> simp [hx, this]
    · simp only [Bool.toNat_true, Nat.one_mul]
      by_cases hx : X = 0
      · have := h0.1 hx
        have n1 : D + X = D := by omega
        rw [if_pos n1]
        rcases Nat.mod_two_eq_zero_or_one V with hv | hv
        · have : V = 0 := by omega
          subst this
          cases rest <;> simp
        · have : V ≠ 0 := by omega
          cases rest <;> simp [hv, this]
      · have : ¬ V / 2 = 0 := fun h => hx (h0.2 h)
        have : V ≠ 0 := by omega
        have n1 : ¬ D + X = D := by omega
        have n2 : D < D + X := by omega
        rw [if_neg n1, if_pos n2]
        cases rest <;> simp [this]
theorem headK_num (k : Int) : numOf (headK k) = (if 0 ≤ k then 2 ^ (k.toNat + 2) - 2 else 1) ∧ (headK k).length = (if 0 ≤ k then k.toNat + 2 else (1 - k).toNat) := by
  unfold headK
  by_cases h : 0 ≤ k
  · rw [if_pos h, if_pos h, if_pos h, numOf_append, numOf_ones]
    have : 1 ≤ 2 ^ (k.toNat + 1) := Nat.one_le_two_pow
    rw [Nat.pow_succ 2 (k.toNat + 1)]
    refine ⟨?_, by simp⟩
    show (2 ^ (k.toNat + 1) - 1) * 2 ^ 1 + 0 = _
    omega
  · rw [if_neg h, if_neg h, if_neg h, numOf_append, show List.replicate (-k).toNat false = noughts (-k).toNat from rfl, numOf_noughts]
    refine ⟨by simp; rfl, ?_⟩
    simp [noughts]; omega
def tailL (s : Int) (hi lo : Nat) : List Bool := bitsOf (s % 4).toNat 2 ++ digX hi lo
theorem tailL_num (s : Int) {hi lo : Nat} (h : WordsX hi lo) : (tailL s hi lo).length = 129 ∧ numOf (tailL s hi lo) = tailN s (manX hi lo) := by
  unfold tailL
  refine ⟨by simp [bitsOf_length, digX_length], ?_⟩
  rw [numOf_append, digX_num h, digX_length, numOf_bits, Nat.mod_eq_of_lt (by omega)]
  rfl
theorem room_pows (room : Nat) (h : room ≤ 64) : 2 ^ (129 - room) = 2 * 2 ^ (128 - room) ∧ 2 ^ 128 = 2 ^ (128 - room) * 2 ^ room := by
  refine ⟨?_, ?_⟩
  · rw [← Nat.pow_succ']; congr 1; omega
  · rw [← Nat.pow_add]; congr 1; omega
/-- the first n - 1 bits of the string, and what is left, from the run and from what stands behind it but for the last bit -/
theorem cut_parts (n : Nat) (s : Int) (hi lo : Nat) (rest : Bool) (h : WordsX hi lo) (hr : (headK (s / 4)).length ≤ n - 1) (hn : n ≤ 64) (B room : Nat)
    (hB : B = tailN s (manX hi lo) / 2) (hroom : room = n - 1 - (headK (s / 4)).length) :
    numOf ((strX s hi lo).take (n - 1)) = numOf (headK (s / 4)) * 2 ^ room + B / 2 ^ (128 - room) ∧ B / 2 ^ (128 - room) < 2 ^ room ∧ leftL ((strX s hi lo).drop (n - 1)) rest = cmpX (B * 2 ^ room % 2 ^ 128) (decide (lo % 2 = 1) || rest) := by
  obtain ⟨t1, t2⟩ := tailL_num s h
  have e : strX s hi lo = headK (s / 4) ++ tailL s hi lo := by unfold strX tailL; simp
  have hr2 : room ≤ 64 := by omega
  have e1 : (strX s hi lo).take (n - 1) = headK (s / 4) ++ (tailL s hi lo).take room := by
    rw [e, List.take_append, List.take_of_length_le hr, ← hroom]
  have e2 : (strX s hi lo).drop (n - 1) = (tailL s hi lo).drop room := by
    rw [e, List.drop_append, List.drop_of_length_le hr, ← hroom, List.nil_append]
  have hc := cut_num (tailL s hi lo) room (by omega)
  have hlt := numOf_lt ((tailL s hi lo).drop room)
  rw [List.length_drop, t1] at hlt
  rw [t1, t2] at hc
  have hpar : tailN s (manX hi lo) % 2 = lo % 2 := by
    unfold tailN manX
    have := h.top
    rw [show (2 : Nat) ^ 127 = 2 * 85070591730234615865843651857942052864 by decide]
    omega
  obtain ⟨p1, p3⟩ := room_pows room hr2
  have hdl : ((tailL s hi lo).drop room).length = (128 - room) + 1 := by rw [List.length_drop, t1]; omega
  have htl : ((tailL s hi lo).take room).length = room := by rw [List.length_take, t1]; omega
  have hlf := left_num ((tailL s hi lo).drop room) (128 - room) rest (by omega) (by omega) hdl
  have htk := numOf_lt ((tailL s hi lo).take room)
  rw [htl] at htk
  rw [e1, e2, hlf, numOf_append, htl, p3, Nat.mul_mod_mul_right, show 128 - (128 - room) = room by omega]
  rw [p1] at hc hlt
  generalize numOf ((tailL s hi lo).drop room) = R at *
  generalize numOf ((tailL s hi lo).take room) = P at *
  generalize tailN s (manX hi lo) = T at *
  have hpos : 0 < 2 ^ (128 - room) := Nat.pow_pos (by decide)
  generalize 2 ^ (128 - room) = G at *
  have hB2 : B = P * G + R / 2 := by
    have : P * (2 * G) = 2 * (P * G) := by rw [Nat.mul_left_comm]
    omega
  have hRG : R / 2 < G := by omega
  have d1 : B / G = P := by rw [hB2, Nat.mul_comm, Nat.mul_add_div hpos, Nat.div_eq_of_lt hRG]; rfl
  have d2 : B % G = R / 2 := by rw [hB2, Nat.mul_comm, Nat.mul_add_mod, Nat.mod_eq_of_lt hRG]
  have hR2 : R % 2 = lo % 2 := by
    have : P * (2 * G) = 2 * (P * G) := by rw [Nat.mul_left_comm]
    omega
  rw [d1, d2, hR2]
  exact ⟨rfl, htk, rfl⟩
/-- within the ends the run has room -/
theorem head_room (n : Nat) (s : Int) (hn : Wd n) (h1 : s < 4 * n - 8) (h2 : 8 - 4 * (n : Int) ≤ s) : (headK (s / 4)).length ≤ n - 1 ∧ 2 ≤ (headK (s / 4)).length := by
  have hw := wd_le hn
  rw [(headK_num (s / 4)).2]
  split <;> omega
end Go.Proofs.YtheliihkkoohnaaGreat

namespace Go.Proofs.YtheliihkkoohnaaGreat
open Go.ChangeShapes Go.WideShapes Go.ChangeAt Go.RowKit
set_option linter.unusedVariables false
set_option linter.unusedSimpArgs false
set_option maxRecDepth 100000

/-! ### the document's round: which Exacts are sound; what is left -/
def exV (k : Int) (neg : Bool) (s : Int) (hi lo : Nat) (rest : Bool) : Value := .agg #[.int .i64 k, .bool neg, .int .i64 s, .int .u64 hi, .int .u64 lo, .bool rest]
def soundX (k : Int) (neg : Bool) (s : Int) (hi lo : Nat) (rest : Bool) : Bool :=
  if k = 0 ∨ k = 2 then decide (neg = false ∧ s = 0 ∧ hi = 0 ∧ lo = 0 ∧ rest = false) else decide (k = 1 ∧ 9223372036854775808 ≤ hi ∧ -1099511627776 ≤ s ∧ s ≤ 1099511627776)
set_option maxHeartbeats 1000000 in
theorem sound7_any (k : Int) (neg : Bool) (s : Int) (hi lo : Nat) (rest : Bool) (w : World) :
    Calls Tryz.prog 51 #[exV k neg s hi lo rest] w fun e w' => e = .returned (.bool (soundX k neg s hi lo rest)) ∧ Below w.heap.size w w' := by
  unfold exV soundX
  refine cps fun Q hQ => ?_
  by_cases h0 : k = 0
  · subst h0
    go_enter Tryz.func51, Tryz.ntmps51
    go_wp2
    all_goals exact hQ.out _ _ ⟨ret_b (by simp_all), cmore (Below.refl _ _) _⟩
  · by_cases h2 : k = 2
    · subst h2
      go_enter Tryz.func51, Tryz.ntmps51
      go_wp2
      all_goals exact hQ.out _ _ ⟨ret_b (by simp_all), cmore (Below.refl _ _) _⟩
    · by_cases h1 : k = 1
      · subst h1
        go_enter Tryz.func51, Tryz.ntmps51
        go_wp2
        all_goals exact hQ.out _ _ ⟨ret_b (by simp_all <;> omega), cmore (Below.refl _ _) _⟩
      · have d0 : (k == 0) = false := beq_eq_false_iff_ne.2 h0
        have d1 : (k == 1) = false := beq_eq_false_iff_ne.2 h1
        have d2 : (k == 2) = false := beq_eq_false_iff_ne.2 h2
        have HN : Hid (¬ k = 0 ∧ ¬ k = 1 ∧ ¬ k = 2) := ⟨h0, h1, h2⟩
        clear h0 h1 h2
        go_enter Tryz.func51, Tryz.ntmps51
        go_wp2
        all_goals exact hQ.out _ _ ⟨ret_b (by have := HN.out; simp_all), cmore (Below.refl _ _) _⟩
theorem some7_any (s : ByteArray) (l : List Bool) (hs : IsBits s l) (hl : l.length ≤ 1048576) (w : World) :
    Calls Tryz.prog 112 #[.string s] w fun e w' => e = .returned (.bool (l.any id)) ∧ ∃ q, w' = w.drewN q := by
  have hsz := isBits_size hs
  obtain ⟨n, hn⟩ : ∃ n, n = l.length := ⟨_, rfl⟩
  have HN : Hid (n = l.length) := hn
  rw [← hn] at hsz hl
  clear hn
  have heq : Hid (∀ k (hk : k < n), (((s[k]'(by omega)).toNat : Int) == 49) = l.getD k false) := fun k hk => by
    rw [isBits_get hs k (by omega)]
    cases l.getD k false <;> rfl
  clear hs
  refine cps fun Q hQ => ?_
  go_enter Tryz.func112, Tryz.ntmps112
  go_wp2
  go_loopw [3] (fun i wr => ∃ k q : Nat, k ≤ n ∧ i = .int .i64 k ∧ Hid (∀ j, j < k → l.getD j false = false) ∧ wr = w.drewN q) (fun i _ => n - (intOf i).toNat)
  case atStart => exact ⟨0, 0, Nat.zero_le _, rfl, fun j hj => absurd hj (by omega), rfl⟩
  case round =>
    obtain ⟨k, q, hk, rfl, hsame, rfl⟩ := hrel
    by_cases hlt : k < n
    · have hlt' : (k : Int) < n := by omega
      have he := heq.out k hlt
      cases hb : l.getD k false with
      | true =>
        rw [hb] at he
        have hR : l.any id = true := by
          refine List.any_eq_true.2 ⟨true, ?_, rfl⟩
          have h2 : k < l.length := by rw [← HN.out]; exact hlt
          rw [List.getD_eq_getElem?_getD, List.getElem?_eq_getElem h2] at hb
          have : l[k] = true := hb
          rw [← this]; exact List.getElem_mem _
        rw [hR] at hQ
        clear hR hb
        go_wp2
        exact hQ.out _ _ ⟨rfl, _, rfl⟩
      | false =>
        rw [hb] at he
        have HBK : Hid (l.getD k false = false) := hb
        clear hb
        go_wp2
        go_roundw
        case rel => exact ⟨k + 1, _, by omega, by go_num, fun j hj => by rcases Nat.lt_succ_iff_lt_or_eq.1 hj with c | c; exact hsame.out j c; subst c; exact HBK.out, rfl⟩
        case measure => simp [intOf]; omega
    · have hkn : k = n := by omega
      have hR : l.any id = false := by
        refine List.any_eq_false.2 fun x hx => ?_
        obtain ⟨j, hj, e⟩ := List.getElem_of_mem hx
        have := hsame.out j (by rw [hkn, HN.out]; exact hj)
        rw [List.getD_eq_getElem?_getD, List.getElem?_eq_getElem hj] at this
        have h2 : l[j] = false := this
        rw [← e, h2]; decide
      rw [hR] at hQ
      clear hR hkn
      go_wp2
      exact hQ.out _ _ ⟨rfl, _, rfl⟩
theorem left7_any (s : ByteArray) (l : List Bool) (rest : Bool) (hs : IsBits s l) (h0 : 0 < l.length) (hl : l.length ≤ 1048576) (w : World) :
    Calls Tryz.prog 114 #[.string s, .bool rest] w fun e w' => e = .returned (.int .i64 (leftL l rest : Nat)) ∧ Below w.heap.size w w' := by
  have hsz := isBits_size hs
  obtain ⟨n, hn⟩ : ∃ n, n = l.length := ⟨_, rfl⟩
  have HN : Hid (n = l.length) := hn
  rw [← hn] at hsz hl h0
  have hi : IsBits (s.extract 1 n) (l.drop 1) := by
    have := isBits_extract hs 1 n
    rw [List.take_of_length_le (by rw [List.length_drop, hn]; exact Nat.le_refl _)] at this
    exact this
  have r1 := slice_l (P := Tryz.prog) (s := s) Tryz.underlying9 1 1 rfl (by omega)
  rw [hsz] at r1
  have k1 := some7_any _ _ hi (by rw [List.length_drop, ← hn]; omega)
  clear hn
  have hs0 : (((s[0]'(by omega)).toNat : Int) == 49) = l.getD 0 false := by
    rw [isBits_get hs 0 (by omega)]; cases l.getD 0 false <;> rfl
  have hne : s.toList.isEmpty = false := by
    rw [← decide_eq_emptyBytes]
    refine decide_eq_false fun h => ?_
    rw [h] at hsz
    have : (0 : Nat) = n := hsz
    omega
  unfold leftL
  generalize s.extract 1 n = s1 at *
  generalize (l.drop 1).any id = more at *
  generalize l.getD 0 false = b at *
  clear hi hs
  refine cps fun Q hQ => ?_
  cases b <;> cases more <;> cases rest
  all_goals
    go_enter Tryz.func114, Tryz.ntmps114
    go_wp2_with (go_at_call 112; refine (k1 _).mono ?_; rintro e w1 ⟨rfl, q1, rfl⟩)
    first
      | exact hQ.out _ _ ⟨rfl, below_drewN (Below.refl _ _) _⟩
      | skip
end Go.Proofs.YtheliihkkoohnaaGreat
