import Derived.Test.YthbhcdokjlpjbaaCodB
import Derived.Test.YthbhcdokjlpjbaaRegC
import Derived.Deep.RegionLaw
import Derived.Deep.CutBlock
import Derived.Deep.CutRange
namespace Go.Proofs.Ythbhcdokjlpjbaa
open Go.ChangeShapes Go.WideShapes Go.ChangeAt Go.RowKit
set_option linter.unusedVariables false
set_option linter.unusedSimpArgs false
set_option maxRecDepth 100000

theorem cthen {a W w : World} (h : Below a.heap.size a W) (hb : Below W.heap.size W w) : Below a.heap.size a w := h.trans (hb.mono h.size)
theorem cmore {a w : World} (h : Below a.heap.size a w) (o : Obj) : Below a.heap.size a (w.alloc o) := h.alloc h.size o
theorem cdrew {a W : World} (h : Below a.heap.size a W) : Below a.heap.size a W.drew := h.drew
theorem cset {a W : World} {b : Nat} (h : Below a.heap.size a W) (hb : a.heap.size ≤ b) (o : Nat) (v : Value) : Below a.heap.size a (W.setCell ⟨b, o, none⟩ v) := h.setCell hb _
theorem ccell {W w1 : World} (hb : Below W.heap.size W w1) : (∀ b o, b < W.heap.size → w1.cell? ⟨b, o, none⟩ = W.cell? ⟨b, o, none⟩) ∧ (∀ b o, b < W.heap.size → w1.frozen? ⟨b, o, none⟩ = W.frozen? ⟨b, o, none⟩) :=
  ⟨fun b o h => hb.cell (p := ⟨b, o, none⟩) h, fun b o h => hb.frozen (p := ⟨b, o, none⟩) h⟩
theorem rowcell {w : World} {m : Nat} {c : Array Value} {t : TypeId} (h : w.heap[m]? = some (.cells c t (0, 0))) (k : Nat) : w.cell? ⟨m, k, none⟩ = c[k]? := by simp [World.cell?, h]
theorem rowfree {w : World} {m : Nat} {c : Array Value} {t : TypeId} (h : w.heap[m]? = some (.cells c t (0, 0))) (k : Nat) : w.frozen? ⟨m, k, none⟩ = false := by simp [World.frozen?, h]
theorem rowset {w : World} {m : Nat} {c : Array Value} {t : TypeId} (h : w.heap[m]? = some (.cells c t (0, 0))) (k : Nat) (v : Value) : (w.setCell ⟨m, k, none⟩ v).heap[m]? = some (.cells (c.setIfInBounds k v) t (0, 0)) :=
  heap_setCell_same w m k c t v h
theorem rownew (w : World) (c : Array Value) (t : TypeId) : (w.alloc (.cells c t)).heap[w.heap.size]? = some (.cells c t (0, 0)) := by
  show (w.heap.push _)[w.heap.size]? = _
  exact Array.getElem?_push_size
theorem rownew' (w : World) (c : Array Value) (t : TypeId) (m : Nat) (h : m = w.heap.size) : (w.alloc (.cells c t)).heap[m]? = some (.cells c t (0, 0)) := by subst h; exact rownew w c t
theorem row8 {w : World} {m : Nat} {u0 u1 u2 u3 u4 u5 u6 u7 v0 v1 v2 v3 v4 v5 v6 v7 : Value} {t : TypeId} (h : w.heap[m]? = some (.cells #[u0, u1, u2, u3, u4, u5, u6, u7] t (0, 0))) :
    ((((((((w.setCell ⟨m, 0, none⟩ v0).setCell ⟨m, 1, none⟩ v1).setCell ⟨m, 2, none⟩ v2).setCell ⟨m, 3, none⟩ v3).setCell ⟨m, 4, none⟩ v4).setCell ⟨m, 5, none⟩ v5).setCell ⟨m, 6, none⟩ v6).setCell ⟨m, 7, none⟩ v7).heap[m]? = some (.cells #[v0, v1, v2, v3, v4, v5, v6, v7] t (0, 0)) := by
  have h := rowset h 0 v0
  simp only [List.setIfInBounds_toArray, List.set_cons_zero, List.set_cons_succ] at h
  have h := rowset h 1 v1
  simp only [List.setIfInBounds_toArray, List.set_cons_zero, List.set_cons_succ] at h
  have h := rowset h 2 v2
  simp only [List.setIfInBounds_toArray, List.set_cons_zero, List.set_cons_succ] at h
  have h := rowset h 3 v3
  simp only [List.setIfInBounds_toArray, List.set_cons_zero, List.set_cons_succ] at h
  have h := rowset h 4 v4
  simp only [List.setIfInBounds_toArray, List.set_cons_zero, List.set_cons_succ] at h
  have h := rowset h 5 v5
  simp only [List.setIfInBounds_toArray, List.set_cons_zero, List.set_cons_succ] at h
  have h := rowset h 6 v6
  simp only [List.setIfInBounds_toArray, List.set_cons_zero, List.set_cons_succ] at h
  have h := rowset h 7 v7
  simp only [List.setIfInBounds_toArray, List.set_cons_zero, List.set_cons_succ] at h
  exact h
theorem cset8 {a W : World} {m : Nat} {v0 v1 v2 v3 v4 v5 v6 v7 : Value} (h : Below a.heap.size a W) (hb : a.heap.size ≤ m) :
    Below a.heap.size a ((((((((W.setCell ⟨m, 0, none⟩ v0).setCell ⟨m, 1, none⟩ v1).setCell ⟨m, 2, none⟩ v2).setCell ⟨m, 3, none⟩ v3).setCell ⟨m, 4, none⟩ v4).setCell ⟨m, 5, none⟩ v5).setCell ⟨m, 6, none⟩ v6).setCell ⟨m, 7, none⟩ v7) :=
  cset (cset (cset (cset (cset (cset (cset (cset h hb 0 v0) hb 1 v1) hb 2 v2) hb 3 v3) hb 4 v4) hb 5 v5) hb 6 v6) hb 7 v7
theorem rowlt {w : World} {m : Nat} {c : Array Value} {t : TypeId} (h : w.heap[m]? = some (.cells c t (0, 0))) : m < w.heap.size := (Array.getElem?_eq_some_iff.1 h).1
/-! ### Split -/
def fdV (neg : Bool) (l : List Bool) : Value := .agg #[.bool neg, .bool (onesL l), .int .i64 (runL l), .int .i64 (regL l), .int .i64 (min (restL l).length 2 : Nat), .int .i64 (expL l), .int .i64 ((restL l).length - 2 : Nat), .int .u64 (fracL l)]
def fd0 : Value := .agg #[.bool false, .bool false, .int .i64 0, .int .i64 0, .int .i64 0, .int .i64 0, .int .i64 0, .int .u64 0]
theorem strS_length (n x : Nat) : (strS n x).length = n - 1 := by unfold strS; split <;> rw [List.length_drop, bitsOf_length]
theorem char_eq (b : Bool) : ((48 + ((b.toNat : Nat) : Int)) == 49) = b := by cases b <;> rfl
theorem restL_length (l : List Bool) : (restL l).length = l.length - (runL l + 1) := by unfold restL; rw [List.length_drop]
theorem exp_take (u : List Bool) (E : Nat) (h : (E = u.length ∧ u.length ≤ 2) ∨ (E = 2 ∧ 2 < u.length)) : (u.take E ++ [false, false]).take 2 = (u ++ noughts 2).take 2 := by
  rcases h with ⟨rfl, h⟩ | ⟨rfl, h⟩
  · rw [List.take_of_length_le (Nat.le_refl _)]; rfl
  · rw [List.take_append_of_le_length (by rw [List.length_take]; omega), List.take_append_of_le_length (by omega), List.take_take]; rfl
theorem frac_drop (u : List Bool) (E : Nat) (h : (E = u.length ∧ u.length ≤ 2) ∨ (E = 2 ∧ 2 < u.length)) : u.drop E = u.drop 2 := by
  rcases h with ⟨rfl, h⟩ | ⟨rfl, h⟩
  · rw [List.drop_of_length_le (Nat.le_refl _), List.drop_of_length_le h]
  · rfl
theorem runL_le (l : List Bool) : runL l ≤ l.length := by
  cases l with
  | nil => exact Nat.le_refl _
  | cons b l =>
    have := (List.takeWhile_sublist (· == b) (l := l)).length_le
    rw [runL, List.length_cons]; omega
set_option maxHeartbeats 4000000 in
theorem split6_real (n x : Nat) (hn : Wd n) (hx : x < 2 ^ 64) (hk : kindOf n (x % 2 ^ n) = 1) (w : World) :
    Calls Try.prog 11 #[.int .i64 n, .int .u64 x] w fun e w' => e = .returned (.tuple #[fdV (x.testBit (n - 1)) (strS n x), .int .i64 0]) ∧ Below w.heap.size w w' := by
  have k1 := rkind_ok n x hn
  rw [hk] at k1
  have hw := wd_le hn
  have hlen := strS_length n x
  have k2 := string6_any n x (by omega) hw.2 hx
  have k3 := text_any x n hw.2
  have HL : Hid _ := hlen
  clear hn hx hk hlen
  refine cps fun Q hQ => ?_
  generalize strS n x = l at *
  have hl0 : 0 < l.length := by rw [HL.out]; omega
  have hlm : l.length ≤ 1048576 := by rw [HL.out]; omega
  have HLB : Hid (0 < l.length ∧ l.length ≤ 1048576) := ⟨hl0, hlm⟩
  clear hl0 hlm
  go_enter Try.func11, Try.ntmps11
  go_upto_region 5 with (first
    | (go_at_call 27; refine (k1 _).mono ?_; rintro e w1 ⟨rfl, hb1⟩; have HB1 : Hid (Below _ _ _) := hb1; clear hb1)
    | (go_at_call 28; refine (k2 _).mono ?_; rintro e w2 ⟨s, rfl, hs, hb2⟩; have HB2 : Hid (Below _ _ _) := hb2; clear hb2))
  have HS : Hid (IsBits s l) := hs
  have hsz := isBits_size hs
  rw [HL.out] at hsz
  have hs0 : (s[0]'(by omega)).toNat = 48 + (l.getD 0 false).toNat := by
    rw [isBits_get hs 0 (by omega)]; cases l.getD 0 false <;> rfl
  have e0 := char_eq (l.getD 0 false)
  have HSZ : Hid (s.size = n - 1) := hsz
  have k4 := fun w => run6_any s l HS.out HLB.out.1 HLB.out.2 w
  obtain ⟨o, ho⟩ : ∃ o, o = l.getD 0 false := ⟨_, rfl⟩
  rw [← ho] at hs0 e0
  have HO : Hid (o = onesL l) := ho
  obtain ⟨r, hr⟩ : ∃ r, r = runL l := ⟨_, rfl⟩
  rw [← hr] at k4
  have HR : Hid (r = runL l) := hr
  obtain ⟨b, hbx⟩ : ∃ b, b = x.testBit (n - 1) := ⟨_, rfl⟩
  have HBX : Hid (b = x.testBit (n - 1)) := hbx
  have e1 := char_eq b
  have HTX : Hid (∀ (t : ByteArray) (ht : IsBits t (bitsOf x n)) (hj : 0 < t.size), (t[0]'hj).toNat = 48 + b.toNat) := fun t ht hj => by rw [hbx]; exact bits_top x n (by omega) t ht hj
  clear ho hr hs hbx
  have hn1 : 0 < n - 1 := by omega
  have hn2 : 0 < n := by omega
  go_cut [9] from 29 (fun s9 wx => ∃ m : Nat, s9 = .pointer (some ⟨m, 0, none⟩) ∧ Below w2.heap.size w2 wx ∧ w2.heap.size ≤ m ∧ wx.heap[m]? = some (.cells #[.bool b, .bool o, .int .i64 r, .int .i64 0, .int .i64 0, .int .i64 0, .int .i64 0, .int .u64 0] 25 (0, 0)))
  case first =>
    refine wpC_region (fun W => True) (by kernel_rfl) ?_
    refine wpC_take 0 (v := ?_) rfl (by kernel_rfl) (fun _ _ _ h => h) (by kernel_rfl) ?_ ?_; rotate_left; · (intro wC hC; obtain _ := hC; go_simp <;> with_reducible rfl)
    refine wpC_take 1 (v := ?_) rfl (by kernel_rfl) (fun _ _ _ h => h) (by kernel_rfl) ?_ ?_; rotate_left; · (intro wC hC; obtain _ := hC; go_simp <;> with_reducible rfl)
    refine wpC_take 5 (v := ?_) rfl (by kernel_rfl) (fun _ _ _ h => h) (by kernel_rfl) ?_ ?_; rotate_left; · (intro wC hC; obtain _ := hC; go_simp <;> with_reducible rfl)
    refine wpC_take 6 (v := ?_) rfl (by kernel_rfl) (fun _ _ _ h => h) (by kernel_rfl) ?_ ?_; rotate_left; · (intro wC hC; obtain _ := hC; go_simp <;> with_reducible rfl)
    refine wpC_take 7 (v := ?_) rfl (by kernel_rfl) (fun _ _ _ h => h) (by kernel_rfl) ?_ ?_; rotate_left; · (intro wC hC; obtain _ := hC; go_simp <;> with_reducible rfl)
    refine wpC_take 8 (v := ?_) rfl (by kernel_rfl) (fun _ _ _ h => h) (by kernel_rfl) ?_ ?_; rotate_left; · (intro wC hC; obtain _ := hC; go_simp <;> with_reducible rfl)
    refine wpC_two 2 11 rfl rfl (by kernel_rfl) (by kernel_rfl) (by kernel_rfl) trivial (fun K hK => ?_) (fun K hK => ?_)
    · skip
      go_simp
      go_wp2_with ((go_at_call 29; refine (k3 _).mono ?_; rintro e w3 ⟨t, rfl, ht, hb3⟩; have htz := isBits_size ht; rw [bitsOf_length] at htz; have ht0 := HTX.out t ht (by omega)))
      try (refine hK _ _ ?_; clear hK K)
      have B3 := cthen (cdrew (Below.refl w2.heap.size w2)) hb3
      refine wpC_take 3 (v := ?_) rfl (by kernel_rfl) (fun _ _ _ h => h) (by kernel_rfl) ?_ ?_; rotate_left; · (intro wC hC; obtain _ := hC; go_simp <;> with_reducible rfl)
      refine wpC_take 4 (v := ?_) rfl (by kernel_rfl) (fun _ _ _ h => h) (by kernel_rfl) ?_ ?_; rotate_left; · (intro wC hC; obtain _ := hC; go_simp <;> with_reducible rfl)
      refine wpC_two 9 11 rfl rfl (by kernel_rfl) (by kernel_rfl) (by kernel_rfl) trivial (fun K hK => ?_) (fun K hK => ?_)
      · skip
        go_simp
        go_wp2_with ((go_at_call 30; refine (k4 _).mono ?_; rintro e w4 ⟨rfl, q4, hq4⟩; have hb4 : Below w3.heap.size w3 w4 := hq4 ▸ below_drewN (Below.refl _ _) q4; clear hq4))
        try (refine hK _ _ ?_; clear hK K)
        have B4 := cthen B3 hb4
        refine wpC_take 10 (v := ?_) rfl (by kernel_rfl) (fun _ _ _ h => h) (by kernel_rfl) ?_ ?_; rotate_left; · (intro wC hC; obtain _ := hC; go_simp <;> with_reducible rfl)
        refine wpC_step 11 rfl (by kernel_rfl) (by kernel_rfl) trivial (fun K hK => ?_)
        go_simp
        try (refine hK _ _ ?_; clear hK K)
        refine wpC_step 12 rfl (by kernel_rfl) (by kernel_rfl) trivial (fun K hK => ?_)
        go_simp
        try (refine hK _ _ ?_; clear hK K)
        refine wpC_done (C := fun _ => True) (by kernel_rfl) trivial ?_
        go_wp2_with fail
        go_meet
        case rel => exact ⟨_, rfl, cmore B4 _, B4.size, rownew _ _ _⟩
      · skip
        go_simp
        try (refine hK _ _ ?_; clear hK K)
        refine wpC_step 9 rfl (by kernel_rfl) (by kernel_rfl) trivial (fun K hK => ?_)
        go_simp
        go_wp2_with ((go_at_call 30; refine (k4 _).mono ?_; rintro e w4 ⟨rfl, q4, rfl⟩))
        try (refine hK _ _ ?_; clear hK K)
        refine wpC_take 10 (v := ?_) rfl (by kernel_rfl) (fun _ _ _ h => h) (by kernel_rfl) ?_ ?_; rotate_left; · (intro wC hC; obtain _ := hC; go_simp <;> with_reducible rfl)
        refine wpC_step 12 rfl (by kernel_rfl) (by kernel_rfl) trivial (fun K hK => ?_)
        go_simp
        try (refine hK _ _ ?_; clear hK K)
        refine wpC_done (C := fun _ => True) (by kernel_rfl) trivial ?_
        go_wp2_with fail
        go_meet
        case rel => exact ⟨_, rfl, cset8 (below_drewN (cmore B3 _) _) B3.size, B3.size, row8 (rownew w3 _ _)⟩
    · skip
      go_simp
      try (refine hK _ _ ?_; clear hK K)
      refine wpC_step 2 rfl (by kernel_rfl) (by kernel_rfl) trivial (fun K hK => ?_)
      go_simp
      go_wp2_with ((go_at_call 29; refine (k3 _).mono ?_; rintro e w3 ⟨t, rfl, ht, hb3⟩; have htz := isBits_size ht; rw [bitsOf_length] at htz; have ht0 := HTX.out t ht (by omega); obtain ⟨hc3, hf3⟩ := ccell hb3; have y4 : w2.heap.size < w3.heap.size := (by have := hb3.size; simp at this; omega)))
      try (refine hK _ _ ?_; clear hK K)
      have B3 := cthen (cmore (cdrew (Below.refl w2.heap.size w2)) _) hb3
      have R3 := (hb3.block w2.heap.size (by simp)).trans (rownew w2.drew _ _)
      refine wpC_take 3 (v := ?_) rfl (by kernel_rfl) (fun _ _ _ h => h) (by kernel_rfl) ?_ ?_; rotate_left; · (intro wC hC; obtain _ := hC; go_simp <;> with_reducible rfl)
      refine wpC_take 4 (v := ?_) rfl (by kernel_rfl) (fun _ _ _ h => h) (by kernel_rfl) ?_ ?_; rotate_left; · (intro wC hC; obtain _ := hC; go_simp <;> with_reducible rfl)
      refine wpC_step 9 rfl (by kernel_rfl) (by kernel_rfl) trivial (fun K hK => ?_)
      go_simp
      go_wp2_with ((go_at_call 30; refine (k4 _).mono ?_; rintro e w4 ⟨rfl, q4, rfl⟩))
      try (refine hK _ _ ?_; clear hK K)
      refine wpC_take 10 (v := ?_) rfl (by kernel_rfl) (fun _ _ _ h => h) (by kernel_rfl) ?_ ?_; rotate_left; · (intro wC hC; obtain _ := hC; go_simp <;> with_reducible rfl)
      refine wpC_step 12 rfl (by kernel_rfl) (by kernel_rfl) trivial (fun K hK => ?_)
      go_simp
      try (refine hK _ _ ?_; clear hK K)
      refine wpC_done (C := fun _ => True) (by kernel_rfl) trivial ?_
      go_wp2_with fail
      go_meet
      case rel => exact ⟨_, rfl, cset8 (below_drewN B3 _) (Nat.le_refl _), Nat.le_refl _, row8 R3⟩
  case rest =>
    obtain ⟨m, rfl, HB, hm, hrow⟩ := hcut
    have z1 : w.heap.size < w1.heap.size := by have := HB1.out.size; simp at this; omega
    have z2 := HB2.out.size
    have RB : Hid (w2.heap[w.heap.size]? = some (.cells #[.bool false, .bool false, .int .i64 0, .int .i64 0, .int .i64 0, .int .i64 0, .int .i64 0, .int .u64 0] 25 (0, 0))) :=
      (HB2.out.block _ z1).trans ((HB1.out.block _ (by simp)).trans (rownew w _ _))
    have HBW : Hid (Below w.heap.size w w2) := cthen (cthen (cmore (Below.refl _ _) _) HB1.out) HB2.out
    have z3 : w.heap.size < w2.heap.size := by omega
    have hne1 : ¬ m = w.heap.size := by omega
    have hne2 : ¬ w.heap.size = m := by omega
    clear HB1 HB2 z1 z2
    have c1 := rowcell hrow 1
    have c2 := rowcell hrow 2
    have c0 := rowcell hrow 0
    have c3 := rowcell hrow 3
    have c4 := rowcell hrow 4
    have c5 := rowcell hrow 5
    have c6 := rowcell hrow 6
    have c7 := rowcell hrow 7
    have cf := rowfree hrow
    simp only [List.getElem?_toArray, List.getElem?_cons_zero, List.getElem?_cons_succ] at c0 c1 c2 c3 c4 c5 c6 c7
    have hrl := runL_le l
    rw [← HR.out, HL.out] at hrl
    have HRL : Hid ((restL l).length = n - 1 - (r + 1)) := by
      show _ = _
      rw [restL_length, ← HR.out, HL.out]
    have HRESTB : Hid (IsBits (s.extract (r + 1) (n - 1)) (restL l)) := by
      have := isBits_extract HS.out (r + 1) (n - 1)
      rw [List.take_of_length_le (by rw [List.length_drop, HL.out]; exact Nat.le_refl _), HR.out] at this
      rw [HR.out]; exact this
    have HBB : Hid (Below w2.heap.size w2 wc) := HB
    have HROW : Hid _ := hrow
    have hr4 : ∀ u v z, (((wc.setCell ⟨m, 3, none⟩ u).setCell ⟨m, 4, none⟩ v).setCell ⟨m, 4, none⟩ z).cell? ⟨m, 4, none⟩ = some z := fun u v z => by
      rw [rowcell (rowset (rowset (rowset hrow 3 u) 4 v) 4 z) 4]; rfl
    have hr5 : ∀ u' u v z, ((((wc.setCell ⟨m, 3, none⟩ u').setCell ⟨m, 3, none⟩ u).setCell ⟨m, 4, none⟩ v).setCell ⟨m, 4, none⟩ z).cell? ⟨m, 4, none⟩ = some z := fun u' u v z => by
      rw [rowcell (rowset (rowset (rowset (rowset hrow 3 u') 3 u) 4 v) 4 z) 4]; rfl
    clear hrow HB k1 k2 k3 k4 hs0 e0 e1
    by_cases hrn : r < n - 1
    · obtain ⟨q, hq⟩ : ∃ q, q = n - 1 - (r + 1) := ⟨_, rfl⟩
      have HQ : Hid (q = n - 1 - (r + 1)) := hq
      have r1 := slice_l (P := Try.prog) (s := s) Try.underlying9 ((r : Int) + 1) (r + 1) (by omega) (by rw [hsz]; omega)
      rw [hsz] at r1
      have hRz : (s.extract (r + 1) (n - 1)).size = q := by rw [isBits_size HRESTB.out, HRL.out, hq]
      generalize s.extract (r + 1) (n - 1) = R at *
      by_cases hq2 : q ≤ 2
      · have hz00 : (⟨#[48, 48]⟩ : ByteArray).size = 2 := rfl
        have hE : (q = q ∧ q ≤ 2) ∨ (q = 2 ∧ 2 < q) := by omega
        have hEu : (q = (restL l).length ∧ (restL l).length ≤ 2) ∨ (q = 2 ∧ 2 < (restL l).length) := by rw [HRL.out, ← HQ.out]; exact hE
        have g1 := slice_h (P := Try.prog) (s := R) Try.underlying9 (q : Int) q (by first | rfl | omega) (by omega)
        have g2 := slice_l (P := Try.prog) (s := R) Try.underlying9 (q : Int) q (by first | rfl | omega) (by omega)
        have hez : (R.extract 0 q).size = q := by rw [ByteArray.size_extract]; omega
        have g3 := fun wx => run_string_add_sum (P := Try.prog) wx (R.extract 0 q) ⟨#[48, 48]⟩ (by rw [hez, hz00]; omega)
        have hI1 : IsBits (R.extract 0 q ++ ⟨#[48, 48]⟩) ((restL l).take q ++ [false, false]) := by
          have := isBits_append (isBits_extract HRESTB.out 0 q) (show IsBits ⟨#[48, 48]⟩ [false, false] from rfl)
          simpa using this
        have hI2 : IsBits (R.extract q q) ((restL l).drop 2) := by
          have := isBits_extract HRESTB.out q q
          rw [List.take_of_length_le (by rw [List.length_drop, HRL.out, ← HQ.out]; exact Nat.le_refl _), frac_drop _ _ hEu] at this
          exact this
        have hl2 : ((restL l).drop 2).length ≤ 64 := by rw [List.length_drop, HRL.out]; omega
        rw [hRz] at g2
        generalize R.extract q q = F at *
        have hXz : (R.extract 0 q ++ ⟨#[48, 48]⟩).size = q + 2 := by rw [ByteArray.size_append, hez, hz00]
        generalize R.extract 0 q ++ ⟨#[48, 48]⟩ = X at *
        have g4 := slice_h (P := Try.prog) (s := X) Try.underlying9 2 2 rfl (by omega)
        have hI3 : IsBits (X.extract 0 2) ((restL l ++ noughts 2).take 2) := by
          have := isBits_extract hI1 0 2
          rw [List.drop_zero, exp_take _ _ hEu] at this
          exact this
        have hl3 : ((restL l ++ noughts 2).take 2).length ≤ 64 := by rw [List.length_take]; omega
        have k5 := number_any _ _ hI3 hl3
        have k6 := number_any _ _ hI2 hl2
        rw [show numOf ((restL l ++ noughts 2).take 2) = expL l from rfl] at k5
        rw [show numOf ((restL l).drop 2) = fracL l from rfl] at k6
        have hex : expL l < 4 := by
          have := numOf_lt ((restL l ++ noughts 2).take 2)
          rw [show ((restL l ++ noughts 2).take 2).length = 2 by simp] at this
          exact this
        have HF : Hid (Below w2.heap.size w2 wc) := HBB.out
        generalize X.extract 0 2 = Y at *
        obtain ⟨ee, hee⟩ : ∃ ee, ee = expL l := ⟨_, rfl⟩
        obtain ⟨ff, hff⟩ : ∃ ff, ff = fracL l := ⟨_, rfl⟩
        rw [← hee] at k5 hex
        rw [← hff] at k6
        have HEF : Hid (ee = expL l ∧ ff = fracL l) := ⟨hee, hff⟩
        have HE : Hid ((q = q ∧ q ≤ 2) ∨ (q = 2 ∧ 2 < q)) := hE
        have hqb : q ≤ 62 := by omega
        clear hE hEu hI1 hI2 hI3 hl2 hl3 hz00 hez hee hff hq
        cases o
        · go_wp2_with fail
          refine (k5 _).mono ?_
          rintro e w5 ⟨rfl, rfl⟩
          go_wp2_with fail
          refine (k6 _).mono ?_
          rintro e w6 ⟨rfl, hw6⟩
          have R6 : w6.heap[m]? = some (.cells #[.bool b, .bool false, .int .i64 r, .int .i64 (-(r : Int)), .int .i64 (q : Int), .int .i64 ee, .int .i64 0, .int .u64 0] 25 (0, 0)) := by
            rw [hw6]
            refine (rowset (rowset (rowset (rowset HROW.out 3 _) 4 _) 5 _) 6 _).trans ?_
            simp only [List.setIfInBounds_toArray, List.set_cons_zero, List.set_cons_succ]
          have B6 : Below w2.heap.size w2 w6 := by rw [hw6]; exact (cset (cset (cset (cset HBB.out hm 3 _) hm 4 _) hm 5 _) hm 6 _)
          have HB6 : Hid (Below w2.heap.size w2 w6) := B6
          have HR6 : Hid _ := R6
          have d0 := rowcell R6 0
          have d1 := rowcell R6 1
          have d2 := rowcell R6 2
          have d3 := rowcell R6 3
          have d4 := rowcell R6 4
          have d5 := rowcell R6 5
          have d6 := rowcell R6 6
          have d7 := rowcell R6 7
          have df := rowfree R6
          simp only [List.getElem?_toArray, List.getElem?_cons_zero, List.getElem?_cons_succ] at d0 d1 d2 d3 d4 d5 d6 d7
          have R0 := (B6.block _ z3).trans RB.out
          have b0 := rowcell R0 0
          have b1 := rowcell R0 1
          have b2 := rowcell R0 2
          have b3 := rowcell R0 3
          have b4 := rowcell R0 4
          have b5 := rowcell R0 5
          have b6 := rowcell R0 6
          have b7 := rowcell R0 7
          have bf := rowfree R0
          simp only [List.getElem?_toArray, List.getElem?_cons_zero, List.getElem?_cons_succ] at b0 b1 b2 b3 b4 b5 b6 b7
          clear R0 hw6 R6 B6 c0 c1 c2 c3 c4 c5 c6 c7 cf
          go_wp2
          have e1 : min q 2 = q := by omega
          have e2 : q - 2 = 0 := by omega
          have hv : fdV (x.testBit (n - 1)) l = .agg #[.bool b, .bool false, .int .i64 r, .int .i64 (-(r : Int)), .int .i64 (q : Int), .int .i64 ee, .int .i64 0, .int .u64 ff] := by
            unfold fdV regL
            rw [← HBX.out, ← HO.out, ← HR.out, HRL.out, ← HQ.out, ← HEF.out.1, ← HEF.out.2, e1, e2]
            rfl
          refine bodyPost_ret (v := .tuple #[.agg #[.bool b, .bool false, .int .i64 r, .int .i64 (-(r : Int)), .int .i64 (q : Int), .int .i64 ee, .int .i64 0, .int .u64 ff], .int .i64 0]) (by simp [results, Try.results11, go_sem, b0, b1, b2, b3, b4, b5, b6, b7, hne1, hne2, e2]) rfl (hQ.out _ _ ⟨by rw [hv], ?_⟩)
          have hmw : w.heap.size ≤ m := by omega
          exact cset8 (cset (cthen HBW.out HB6.out) hmw _ _) (Nat.le_refl _)
        · go_wp2_with fail
          refine (k5 _).mono ?_
          rintro e w5 ⟨rfl, rfl⟩
          go_wp2_with fail
          refine (k6 _).mono ?_
          rintro e w6 ⟨rfl, hw6⟩
          have R6 : w6.heap[m]? = some (.cells #[.bool b, .bool true, .int .i64 r, .int .i64 ((r : Int) - 1), .int .i64 (q : Int), .int .i64 ee, .int .i64 0, .int .u64 0] 25 (0, 0)) := by
            rw [hw6]
            refine (rowset (rowset (rowset (rowset (rowset HROW.out 3 _) 3 _) 4 _) 5 _) 6 _).trans ?_
            simp only [List.setIfInBounds_toArray, List.set_cons_zero, List.set_cons_succ]
          have B6 : Below w2.heap.size w2 w6 := by rw [hw6]; exact (cset (cset (cset (cset (cset HBB.out hm 3 _) hm 3 _) hm 4 _) hm 5 _) hm 6 _)
          have HB6 : Hid (Below w2.heap.size w2 w6) := B6
          have HR6 : Hid _ := R6
          have d0 := rowcell R6 0
          have d1 := rowcell R6 1
          have d2 := rowcell R6 2
          have d3 := rowcell R6 3
          have d4 := rowcell R6 4
          have d5 := rowcell R6 5
          have d6 := rowcell R6 6
          have d7 := rowcell R6 7
          have df := rowfree R6
          simp only [List.getElem?_toArray, List.getElem?_cons_zero, List.getElem?_cons_succ] at d0 d1 d2 d3 d4 d5 d6 d7
          have R0 := (B6.block _ z3).trans RB.out
          have b0 := rowcell R0 0
          have b1 := rowcell R0 1
          have b2 := rowcell R0 2
          have b3 := rowcell R0 3
          have b4 := rowcell R0 4
          have b5 := rowcell R0 5
          have b6 := rowcell R0 6
          have b7 := rowcell R0 7
          have bf := rowfree R0
          simp only [List.getElem?_toArray, List.getElem?_cons_zero, List.getElem?_cons_succ] at b0 b1 b2 b3 b4 b5 b6 b7
          clear R0 hw6 R6 B6 c0 c1 c2 c3 c4 c5 c6 c7 cf
          go_wp2
          have e1 : min q 2 = q := by omega
          have e2 : q - 2 = 0 := by omega
          have hv : fdV (x.testBit (n - 1)) l = .agg #[.bool b, .bool true, .int .i64 r, .int .i64 ((r : Int) - 1), .int .i64 (q : Int), .int .i64 ee, .int .i64 0, .int .u64 ff] := by
            unfold fdV regL
            rw [← HBX.out, ← HO.out, ← HR.out, HRL.out, ← HQ.out, ← HEF.out.1, ← HEF.out.2, e1, e2]
            rfl
          refine bodyPost_ret (v := .tuple #[.agg #[.bool b, .bool true, .int .i64 r, .int .i64 ((r : Int) - 1), .int .i64 (q : Int), .int .i64 ee, .int .i64 0, .int .u64 ff], .int .i64 0]) (by simp [results, Try.results11, go_sem, b0, b1, b2, b3, b4, b5, b6, b7, hne1, hne2, e2]) rfl (hQ.out _ _ ⟨by rw [hv], ?_⟩)
          have hmw : w.heap.size ≤ m := by omega
          exact cset8 (cset (cthen HBW.out HB6.out) hmw _ _) (Nat.le_refl _)
      · have hz00 : (⟨#[48, 48]⟩ : ByteArray).size = 2 := rfl
        have hE : (2 = q ∧ q ≤ 2) ∨ (2 = 2 ∧ 2 < q) := by omega
        have hEu : (2 = (restL l).length ∧ (restL l).length ≤ 2) ∨ (2 = 2 ∧ 2 < (restL l).length) := by rw [HRL.out, ← HQ.out]; exact hE
        have g1 := slice_h (P := Try.prog) (s := R) Try.underlying9 (2 : Int) 2 (by first | rfl | omega) (by omega)
        have g2 := slice_l (P := Try.prog) (s := R) Try.underlying9 (2 : Int) 2 (by first | rfl | omega) (by omega)
        have hez : (R.extract 0 2).size = 2 := by rw [ByteArray.size_extract]; omega
        have g3 := fun wx => run_string_add_sum (P := Try.prog) wx (R.extract 0 2) ⟨#[48, 48]⟩ (by rw [hez, hz00]; omega)
        have hI1 : IsBits (R.extract 0 2 ++ ⟨#[48, 48]⟩) ((restL l).take 2 ++ [false, false]) := by
          have := isBits_append (isBits_extract HRESTB.out 0 2) (show IsBits ⟨#[48, 48]⟩ [false, false] from rfl)
          simpa using this
        have hI2 : IsBits (R.extract 2 q) ((restL l).drop 2) := by
          have := isBits_extract HRESTB.out 2 q
          rw [List.take_of_length_le (by rw [List.length_drop, HRL.out, ← HQ.out]; exact Nat.le_refl _), frac_drop _ _ hEu] at this
          exact this
        have hl2 : ((restL l).drop 2).length ≤ 64 := by rw [List.length_drop, HRL.out]; omega
        rw [hRz] at g2
        generalize R.extract 2 q = F at *
        have hXz : (R.extract 0 2 ++ ⟨#[48, 48]⟩).size = 2 + 2 := by rw [ByteArray.size_append, hez, hz00]
        generalize R.extract 0 2 ++ ⟨#[48, 48]⟩ = X at *
        have g4 := slice_h (P := Try.prog) (s := X) Try.underlying9 2 2 rfl (by omega)
        have hI3 : IsBits (X.extract 0 2) ((restL l ++ noughts 2).take 2) := by
          have := isBits_extract hI1 0 2
          rw [List.drop_zero, exp_take _ _ hEu] at this
          exact this
        have hl3 : ((restL l ++ noughts 2).take 2).length ≤ 64 := by rw [List.length_take]; omega
        have k5 := number_any _ _ hI3 hl3
        have k6 := number_any _ _ hI2 hl2
        rw [show numOf ((restL l ++ noughts 2).take 2) = expL l from rfl] at k5
        rw [show numOf ((restL l).drop 2) = fracL l from rfl] at k6
        have hex : expL l < 4 := by
          have := numOf_lt ((restL l ++ noughts 2).take 2)
          rw [show ((restL l ++ noughts 2).take 2).length = 2 by simp] at this
          exact this
        have HF : Hid (Below w2.heap.size w2 wc) := HBB.out
        generalize X.extract 0 2 = Y at *
        obtain ⟨ee, hee⟩ : ∃ ee, ee = expL l := ⟨_, rfl⟩
        obtain ⟨ff, hff⟩ : ∃ ff, ff = fracL l := ⟨_, rfl⟩
        rw [← hee] at k5 hex
        rw [← hff] at k6
        have HEF : Hid (ee = expL l ∧ ff = fracL l) := ⟨hee, hff⟩
        have HE : Hid ((2 = q ∧ q ≤ 2) ∨ (2 = 2 ∧ 2 < q)) := hE
        have hqb : q ≤ 62 := by omega
        clear hE hEu hI1 hI2 hI3 hl2 hl3 hz00 hez hee hff hq
        cases o
        · go_wp2_with fail
          refine (k5 _).mono ?_
          rintro e w5 ⟨rfl, rfl⟩
          go_wp2_with fail
          refine (k6 _).mono ?_
          rintro e w6 ⟨rfl, hw6⟩
          have R6 : w6.heap[m]? = some (.cells #[.bool b, .bool false, .int .i64 r, .int .i64 (-(r : Int)), .int .i64 (2 : Int), .int .i64 ee, .int .i64 ((q : Int) - 2), .int .u64 0] 25 (0, 0)) := by
            rw [hw6]
            refine (rowset (rowset (rowset (rowset (rowset HROW.out 3 _) 4 _) 4 _) 5 _) 6 _).trans ?_
            simp only [List.setIfInBounds_toArray, List.set_cons_zero, List.set_cons_succ]
          have B6 : Below w2.heap.size w2 w6 := by rw [hw6]; exact (cset (cset (cset (cset (cset HBB.out hm 3 _) hm 4 _) hm 4 _) hm 5 _) hm 6 _)
          have HB6 : Hid (Below w2.heap.size w2 w6) := B6
          have HR6 : Hid _ := R6
          have d0 := rowcell R6 0
          have d1 := rowcell R6 1
          have d2 := rowcell R6 2
          have d3 := rowcell R6 3
          have d4 := rowcell R6 4
          have d5 := rowcell R6 5
          have d6 := rowcell R6 6
          have d7 := rowcell R6 7
          have df := rowfree R6
          simp only [List.getElem?_toArray, List.getElem?_cons_zero, List.getElem?_cons_succ] at d0 d1 d2 d3 d4 d5 d6 d7
          have R0 := (B6.block _ z3).trans RB.out
          have b0 := rowcell R0 0
          have b1 := rowcell R0 1
          have b2 := rowcell R0 2
          have b3 := rowcell R0 3
          have b4 := rowcell R0 4
          have b5 := rowcell R0 5
          have b6 := rowcell R0 6
          have b7 := rowcell R0 7
          have bf := rowfree R0
          simp only [List.getElem?_toArray, List.getElem?_cons_zero, List.getElem?_cons_succ] at b0 b1 b2 b3 b4 b5 b6 b7
          clear R0 hw6 R6 B6 c0 c1 c2 c3 c4 c5 c6 c7 cf
          go_wp2
          have e1 : min q 2 = 2 := by omega
          have e2 : (q : Int) - 2 = ((q - 2 : Nat) : Int) := by omega
          have hv : fdV (x.testBit (n - 1)) l = .agg #[.bool b, .bool false, .int .i64 r, .int .i64 (-(r : Int)), .int .i64 2, .int .i64 ee, .int .i64 ((q - 2 : Nat) : Int), .int .u64 ff] := by
            unfold fdV regL
            rw [← HBX.out, ← HO.out, ← HR.out, HRL.out, ← HQ.out, ← HEF.out.1, ← HEF.out.2, e1]
            rfl
          refine bodyPost_ret (v := .tuple #[.agg #[.bool b, .bool false, .int .i64 r, .int .i64 (-(r : Int)), .int .i64 2, .int .i64 ee, .int .i64 ((q - 2 : Nat) : Int), .int .u64 ff], .int .i64 0]) (by simp [results, Try.results11, go_sem, b0, b1, b2, b3, b4, b5, b6, b7, hne1, hne2, e2]) rfl (hQ.out _ _ ⟨by rw [hv], ?_⟩)
          have hmw : w.heap.size ≤ m := by omega
          exact cset8 (cset (cthen HBW.out HB6.out) hmw _ _) (Nat.le_refl _)
        · go_wp2_with fail
          refine (k5 _).mono ?_
          rintro e w5 ⟨rfl, rfl⟩
          go_wp2_with fail
          refine (k6 _).mono ?_
          rintro e w6 ⟨rfl, hw6⟩
          have R6 : w6.heap[m]? = some (.cells #[.bool b, .bool true, .int .i64 r, .int .i64 ((r : Int) - 1), .int .i64 (2 : Int), .int .i64 ee, .int .i64 ((q : Int) - 2), .int .u64 0] 25 (0, 0)) := by
            rw [hw6]
            refine (rowset (rowset (rowset (rowset (rowset (rowset HROW.out 3 _) 3 _) 4 _) 4 _) 5 _) 6 _).trans ?_
            simp only [List.setIfInBounds_toArray, List.set_cons_zero, List.set_cons_succ]
          have B6 : Below w2.heap.size w2 w6 := by rw [hw6]; exact (cset (cset (cset (cset (cset (cset HBB.out hm 3 _) hm 3 _) hm 4 _) hm 4 _) hm 5 _) hm 6 _)
          have HB6 : Hid (Below w2.heap.size w2 w6) := B6
          have HR6 : Hid _ := R6
          have d0 := rowcell R6 0
          have d1 := rowcell R6 1
          have d2 := rowcell R6 2
          have d3 := rowcell R6 3
          have d4 := rowcell R6 4
          have d5 := rowcell R6 5
          have d6 := rowcell R6 6
          have d7 := rowcell R6 7
          have df := rowfree R6
          simp only [List.getElem?_toArray, List.getElem?_cons_zero, List.getElem?_cons_succ] at d0 d1 d2 d3 d4 d5 d6 d7
          have R0 := (B6.block _ z3).trans RB.out
          have b0 := rowcell R0 0
          have b1 := rowcell R0 1
          have b2 := rowcell R0 2
          have b3 := rowcell R0 3
          have b4 := rowcell R0 4
          have b5 := rowcell R0 5
          have b6 := rowcell R0 6
          have b7 := rowcell R0 7
          have bf := rowfree R0
          simp only [List.getElem?_toArray, List.getElem?_cons_zero, List.getElem?_cons_succ] at b0 b1 b2 b3 b4 b5 b6 b7
          clear R0 hw6 R6 B6 c0 c1 c2 c3 c4 c5 c6 c7 cf
          go_wp2
          have e1 : min q 2 = 2 := by omega
          have e2 : (q : Int) - 2 = ((q - 2 : Nat) : Int) := by omega
          have hv : fdV (x.testBit (n - 1)) l = .agg #[.bool b, .bool true, .int .i64 r, .int .i64 ((r : Int) - 1), .int .i64 2, .int .i64 ee, .int .i64 ((q - 2 : Nat) : Int), .int .u64 ff] := by
            unfold fdV regL
            rw [← HBX.out, ← HO.out, ← HR.out, HRL.out, ← HQ.out, ← HEF.out.1, ← HEF.out.2, e1]
            rfl
          refine bodyPost_ret (v := .tuple #[.agg #[.bool b, .bool true, .int .i64 r, .int .i64 ((r : Int) - 1), .int .i64 2, .int .i64 ee, .int .i64 ((q - 2 : Nat) : Int), .int .u64 ff], .int .i64 0]) (by simp [results, Try.results11, go_sem, b0, b1, b2, b3, b4, b5, b6, b7, hne1, hne2, e2]) rfl (hQ.out _ _ ⟨by rw [hv], ?_⟩)
          have hmw : w.heap.size ≤ m := by omega
          exact cset8 (cset (cthen HBW.out HB6.out) hmw _ _) (Nat.le_refl _)
    · have hrn2 : decide ((r : Int) < ((n - 1 : Nat) : Int)) = false := decide_eq_false (by omega)
      have hR0 : restL l = [] := List.eq_nil_of_length_eq_zero (by rw [HRL.out]; omega)
      have HR0 : Hid (restL l = []) := hR0
      have k5 : ∀ w, Calls Try.prog 31 #[.string ((⟨#[48, 48]⟩ : ByteArray).extract 0 2)] w fun e w' => e = .returned (.int .u64 0) ∧ w' = w :=
        fun w => number_any _ [false, false] (isBits_extract (show IsBits ⟨#[48, 48]⟩ [false, false] from rfl) 0 2) (by decide) w
      have k6 : ∀ w, Calls Try.prog 31 #[.string ⟨#[]⟩] w fun e w' => e = .returned (.int .u64 0) ∧ w' = w :=
        fun w => number_any ⟨#[]⟩ [] (show IsBits ⟨#[]⟩ [] from rfl) (by decide) w
      clear hR0
      cases o
      · go_wp2_with fail
        refine (k5 _).mono ?_
        rintro e w5 ⟨rfl, rfl⟩
        go_wp2_with fail
        refine (k6 _).mono ?_
        rintro e w6 ⟨rfl, hw6⟩
        have R6 : w6.heap[m]? = some (.cells #[.bool b, .bool false, .int .i64 r, .int .i64 (-(r : Int)), .int .i64 0, .int .i64 0, .int .i64 0, .int .u64 0] 25 (0, 0)) := by
          rw [hw6]
          refine (rowset (rowset (rowset (rowset HROW.out 3 _) 4 _) 5 _) 6 _).trans ?_
          simp only [List.setIfInBounds_toArray, List.set_cons_zero, List.set_cons_succ]
        have B6 : Below w2.heap.size w2 w6 := by rw [hw6]; exact (cset (cset (cset (cset HBB.out hm 3 _) hm 4 _) hm 5 _) hm 6 _)
        have HB6 : Hid (Below w2.heap.size w2 w6) := B6
        have HR6 : Hid _ := R6
        have d0 := rowcell R6 0
        have d1 := rowcell R6 1
        have d2 := rowcell R6 2
        have d3 := rowcell R6 3
        have d4 := rowcell R6 4
        have d5 := rowcell R6 5
        have d6 := rowcell R6 6
        have d7 := rowcell R6 7
        have df := rowfree R6
        simp only [List.getElem?_toArray, List.getElem?_cons_zero, List.getElem?_cons_succ] at d0 d1 d2 d3 d4 d5 d6 d7
        have R0 := (B6.block _ z3).trans RB.out
        have b0 := rowcell R0 0
        have b1 := rowcell R0 1
        have b2 := rowcell R0 2
        have b3 := rowcell R0 3
        have b4 := rowcell R0 4
        have b5 := rowcell R0 5
        have b6 := rowcell R0 6
        have b7 := rowcell R0 7
        have bf := rowfree R0
        simp only [List.getElem?_toArray, List.getElem?_cons_zero, List.getElem?_cons_succ] at b0 b1 b2 b3 b4 b5 b6 b7
        clear R0 hw6 R6 B6 c0 c1 c2 c3 c4 c5 c6 c7 cf
        go_wp2
        have hv : fdV (x.testBit (n - 1)) l = .agg #[.bool b, .bool false, .int .i64 r, .int .i64 (-(r : Int)), .int .i64 0, .int .i64 0, .int .i64 0, .int .u64 0] := by
          unfold fdV regL expL fracL
          rw [← HBX.out, ← HO.out, ← HR.out, HR0.out]
          rfl
        refine bodyPost_ret (v := .tuple #[.agg #[.bool b, .bool false, .int .i64 r, .int .i64 (-(r : Int)), .int .i64 0, .int .i64 0, .int .i64 0, .int .u64 0], .int .i64 0]) (by simp [results, Try.results11, go_sem, b0, b1, b2, b3, b4, b5, b6, b7, hne1, hne2, numOf]) rfl (hQ.out _ _ ⟨by rw [hv], ?_⟩)
        have hmw : w.heap.size ≤ m := by omega
        exact cset8 (cset (cthen HBW.out HB6.out) hmw _ _) (Nat.le_refl _)
      · go_wp2_with fail
        refine (k5 _).mono ?_
        rintro e w5 ⟨rfl, rfl⟩
        go_wp2_with fail
        refine (k6 _).mono ?_
        rintro e w6 ⟨rfl, hw6⟩
        have R6 : w6.heap[m]? = some (.cells #[.bool b, .bool true, .int .i64 r, .int .i64 ((r : Int) - 1), .int .i64 0, .int .i64 0, .int .i64 0, .int .u64 0] 25 (0, 0)) := by
          rw [hw6]
          refine (rowset (rowset (rowset (rowset (rowset HROW.out 3 _) 3 _) 4 _) 5 _) 6 _).trans ?_
          simp only [List.setIfInBounds_toArray, List.set_cons_zero, List.set_cons_succ]
        have B6 : Below w2.heap.size w2 w6 := by rw [hw6]; exact (cset (cset (cset (cset (cset HBB.out hm 3 _) hm 3 _) hm 4 _) hm 5 _) hm 6 _)
        have HB6 : Hid (Below w2.heap.size w2 w6) := B6
        have HR6 : Hid _ := R6
        have d0 := rowcell R6 0
        have d1 := rowcell R6 1
        have d2 := rowcell R6 2
        have d3 := rowcell R6 3
        have d4 := rowcell R6 4
        have d5 := rowcell R6 5
        have d6 := rowcell R6 6
        have d7 := rowcell R6 7
        have df := rowfree R6
        simp only [List.getElem?_toArray, List.getElem?_cons_zero, List.getElem?_cons_succ] at d0 d1 d2 d3 d4 d5 d6 d7
        have R0 := (B6.block _ z3).trans RB.out
        have b0 := rowcell R0 0
        have b1 := rowcell R0 1
        have b2 := rowcell R0 2
        have b3 := rowcell R0 3
        have b4 := rowcell R0 4
        have b5 := rowcell R0 5
        have b6 := rowcell R0 6
        have b7 := rowcell R0 7
        have bf := rowfree R0
        simp only [List.getElem?_toArray, List.getElem?_cons_zero, List.getElem?_cons_succ] at b0 b1 b2 b3 b4 b5 b6 b7
        clear R0 hw6 R6 B6 c0 c1 c2 c3 c4 c5 c6 c7 cf
        go_wp2
        have hv : fdV (x.testBit (n - 1)) l = .agg #[.bool b, .bool true, .int .i64 r, .int .i64 ((r : Int) - 1), .int .i64 0, .int .i64 0, .int .i64 0, .int .u64 0] := by
          unfold fdV regL expL fracL
          rw [← HBX.out, ← HO.out, ← HR.out, HR0.out]
          rfl
        refine bodyPost_ret (v := .tuple #[.agg #[.bool b, .bool true, .int .i64 r, .int .i64 ((r : Int) - 1), .int .i64 0, .int .i64 0, .int .i64 0, .int .u64 0], .int .i64 0]) (by simp [results, Try.results11, go_sem, b0, b1, b2, b3, b4, b5, b6, b7, hne1, hne2, numOf]) rfl (hQ.out _ _ ⟨by rw [hv], ?_⟩)
        have hmw : w.heap.size ≤ m := by omega
        exact cset8 (cset (cthen HBW.out HB6.out) hmw _ _) (Nat.le_refl _)
end Go.Proofs.Ythbhcdokjlpjbaa
