import Derived.Test.YtckmmdmimlhmoaaDoorOwnE
import Derived.Test.YtckmmdmimlhmoaaDoorNatIn
namespace Go.Proofs.YtckmmdmimlhmoaaDoor
open Go.ChangeShapes Go.WideShapes Go.ChangeAt Go.RowKit
set_option linter.unusedVariables false
set_option linter.unusedSimpArgs false
set_option maxRecDepth 100000

theorem TwoU.form1 {B : Nat} {w : World} {v1 v2 : Value} {x y : Nat} (h : TwoU B w v1 v2 x y) : ∃ ao n, v1 = .slice ao n n := by obtain ⟨_, _, h1, _, _⟩ := h; exact h1.form
theorem TwoU.form2 {B : Nat} {w : World} {v1 v2 : Value} {x y : Nat} (h : TwoU B w v1 v2 x y) : ∃ ao n, v2 = .slice ao n n := by obtain ⟨_, _, _, _, h1⟩ := h; exact h1.form
theorem RsL.nextL {base : Nat} {w w' : World} {R : Nat → List Nat} {xs : List Value} {v : Value} {x : Nat} (h : RsL base w R xs) (hb : Below w.heap.size w w') (hv : OwnU w.heap.size w' v x) (m : Nat) (hm : xs.length = m) (hx : R m = lim x) (hB : base ≤ w.heap.size) : RsL base w' R (xs ++ [v]) :=
  h.next hb hv (by rw [hm]; exact hx) hB
theorem RsL.nextM {base : Nat} {w w' : World} {R : Nat → List Nat} {xs : List Value} {v1 v2 : Value} {x y : Nat} (h : RsL base w R xs) (hb : Below w.heap.size w w') (hv : TwoU w.heap.size w' v1 v2 x y) (m : Nat) (hm : xs.length = m) (hx : R m = lim x) (hy : R (m + 1) = lim y) (hB : base ≤ w.heap.size) : RsL base w' R (xs ++ [v1] ++ [v2]) :=
  h.next2 hb hv (by rw [hm]; exact hx) (by rw [hm]; exact hy) hB
theorem shl_ownI (va : Value) (l : List Nat) (hl : Limbs l) (hb : l.length ≤ 1048576) (U : Int) (k : Nat) (hk : k ≤ 200) (hU : U = (k : Nat)) (w : World) (h : RowU w va l) :
    Calls Tryd.prog 11 #[va, .int .i64 U] w fun e w' => ∃ v ev, e = .returned (.tuple #[v, ev]) ∧ OwnU w.heap.size w' v (uval l * 2 ^ k) ∧ Below w.heap.size w w' := by
  subst hU; exact shl_own va l hl hb k hk w h
theorem shr_ownI (va : Value) (l : List Nat) (hl : Limbs l) (hb : l.length ≤ 1048576) (U : Int) (k : Nat) (hk : k ≤ 200) (hU : U = (k : Nat)) (w : World) (h : RowU w va l) :
    Calls Tryd.prog 12 #[va, .int .i64 U] w fun e w' => ∃ v e1 e2, e = .returned (.tuple #[v, e1, e2]) ∧ OwnU w.heap.size w' v (uval l / 2 ^ k) ∧ Below w.heap.size w w' := by
  subst hU; exact shr_own va l hl hb k hk w h
theorem lit_news (W : World) (vs : Array Value) (e : TypeId) (j : Nat) (u : Value) (h : vs.toList[j]? = some u) : (W.alloc (.cells vs e)).cell? ((⟨W.heap.size, 0, none⟩ : Addr).add j) = some u := by
  rw [Addr.add_lit, Nat.zero_add, World.cell?_alloc_at _ _ _ _ rfl]
  simpa using h
theorem owns_step {base : Nat} {w3 wo W W' w6 : World} {lv v' : Value} {n m : Nat} {xs ys : List Value} {R : Nat → List Nat} (hB : Below base w3 wo) (hz : base ≤ wo.heap.size) (hbo : Below wo.heap.size wo W) (hal : Below W.heap.size W W')
    (hl : W'.ownsRow base 22 1 lv n xs) (hs : RsL base W R (xs ++ ys)) (hg : W'.grownBy w6 lv.ownBlock) : RsL base w6 R (xs ++ ys) ∧ Below base w3 w6 := by
  refine ⟨(hs.below hal).chg (Chg.grown hg) fun g L hL _ e => slices_ne hl g L e.symm hL, ?_⟩
  refine (hB.trans ((bthen0 hbo hal).mono hz)).trans ⟨hg.os, hg.tape, hg.output, hg.size, fun k hk => hg.block k ?_ fun e => ?_⟩
  · have := hbo.size; have := hal.size; omega
  · have := (hl.lt k e.symm).1; omega
theorem list_b (s F G n cF cG : Nat) (L M : List Nat) (w : World) (h : LentAt w s F G n cF cG L M) :
    Calls Tryd.prog 7 #[.pointer (some ⟨s, 0, none⟩)] w fun e w' => e = .returned (.slice (some ⟨F, 0, none⟩) n cF) ∧ Below w.heap.size w w' :=
  (list_any s F G n cF cG L M w h).mono fun e w' ⟨h1, q, h2⟩ => ⟨h1, h2 ▸ below_drewN (Below.refl _ _) q⟩
theorem kept_b (s F G n cF cG : Nat) (L : List Nat) (hnb : n ≤ 16777216) (w : World) (h : LentAt w s F G n cF cG L L) :
    Calls Tryd.prog 13 #[.pointer (some ⟨s, 0, none⟩)] w fun e w' => e = .returned (.bool true) ∧ Below w.heap.size w w' :=
  (kept_any s F G n cF cG L hnb w h).mono fun e w' ⟨h1, q, h2⟩ => ⟨h1, h2 ▸ below_drewN (Below.refl _ _) q⟩
/-- what was taken down of each answer -/
def Wants (base : Nat) (w : World) (R : Nat → List Nat) (wv : Value) (i : Nat) : Prop :=
  ∃ us : List Value, w.ownsRow base 22 1 wv i us ∧ ∀ j, j < i → ∃ u, us[j]? = some u ∧ w.ownsRow base 42 1 u (R j).length ((R j).map encU)
theorem Wants.start (base : Nat) (w : World) (R : Nat → List Nat) : Wants base w R (.slice none 0 0) 0 := ⟨[], World.ownsRow_nil _ _ _ _, fun j hj => by cases hj⟩
theorem Wants.chg {S : Nat → Prop} {base : Nat} {w w' : World} {R : Nat → List Nat} {wv : Value} {i : Nat} (h : Wants base w R wv i) (hc : Chg S w w') (hs : ∀ g, base ≤ g → g < w.heap.size → ¬ S g) : Wants base w' R wv i := by
  obtain ⟨us, h1, h2⟩ := h
  refine ⟨us, owns_chg h1 hc fun g hg => hs g (h1.lt g hg).1 (h1.lt g hg).2, fun j hj => ?_⟩
  obtain ⟨u, h3, h4⟩ := h2 j hj
  exact ⟨u, h3, owns_chg h4 hc fun g hg => hs g (h4.lt g hg).1 (h4.lt g hg).2⟩
theorem Wants.step {base : Nat} {w5 w6 : World} {R : Nat → List Nat} {wv wv' v : Value} {i : Nat} {us : List Value}
    (hu : w5.ownsRow base 22 1 wv i us) (hr : ∀ j, j < i → ∃ u, us[j]? = some u ∧ w5.ownsRow base 42 1 u (R j).length ((R j).map encU))
    (hv : w5.ownsRow base 42 1 v (R i).length ((R i).map encU)) (hn : w6.ownsRow base 22 1 wv' (i + 1) (us ++ [v])) (hg : w5.grownBy w6 wv.ownBlock) : Wants base w6 R wv' (i + 1) := by
  have hl : us.length = i := by simpa using hu.1
  have ch : ∀ u n (l : List Nat), w5.ownsRow base 42 1 u n (l.map encU) → w6.ownsRow base 42 1 u n (l.map encU) := fun u n l h =>
    owns_chg h (Chg.grown hg) fun g hgu e => slices_owns hu h g e.symm hgu
  refine ⟨_, hn, fun j hj => ?_⟩
  by_cases e : j = i
  · subst e
    exact ⟨v, by rw [List.getElem?_append_right (by omega), hl]; simp, ch _ _ _ hv⟩
  · obtain ⟨u, h3, h4⟩ := hr j (by omega)
    exact ⟨u, by rw [List.getElem?_append_left (by omega)]; exact h3, ch _ _ _ h4⟩
theorem Wants.cell {base : Nat} {w : World} {R : Nat → List Nat} {g c i : Nat} (h : Wants base w R (.slice (some ⟨g, 0, none⟩) i c) i) (j : Nat) (hj : j < i) : ∃ u, w.cell? ⟨g, j, none⟩ = some u ∧ RowU w u (R j) := by
  obtain ⟨us, h1, h2⟩ := h
  obtain ⟨u, h3, h4⟩ := h2 j hj
  exact ⟨u, (h1.cellAt j (by omega)).trans h3, rowU_own h4⟩
theorem RowU.form {w : World} {u : Value} {l : List Nat} (h : RowU w u l) : ∃ ao c, u = .slice ao l.length c := by obtain ⟨ao, c, h, _⟩ := h; exact ⟨ao, c, h⟩
theorem below_turn {B : Nat} {S : Nat → Prop} {w w' : World} (h : Chg S w w') (hB : B ≤ w.heap.size) (hs : ∀ k, S k → B ≤ k) : Below B w w' :=
  ⟨h.os, h.tape, h.output, h.size, fun k hk => h.block k (by omega) fun e => by have := hs k e; omega⟩
theorem same_q {va vb : Value} {l : List Nat} (w : World) (n : Nat) (ha : RowU w va l) (hb : RowU w vb l) :
    Calls Tryd.prog 15 #[va, vb] (w.drewN n) fun e w' => e = .returned (.bool true) ∧ ∃ m, w' = w.drewN m :=
  (same_any va vb l l true (by simp) _ (ha.below (below_drewN (Below.refl _ _) n)) (hb.below (below_drewN (Below.refl _ _) n))).mono fun e w' ⟨h1, k, h2⟩ => ⟨h1, n + k, by rw [h2, World.drewN_drewN]⟩
set_option maxHeartbeats 16000000 in
theorem natOwns_walk (v1 : Value) (l1 : List Nat) (v2 : Value) (l2 : List Nat) (k : Int) (w : World) (a1 : ∀ x ∈ l1, x < 18446744073709551616) (r1 : RowU w v1 l1) (b1 : l1.length ≤ 1048576) (a2 : ∀ x ∈ l2, x < 18446744073709551616) (r2 : RowU w v2 l2) (b2 : l2.length ≤ 1048576) (wk : (Lit.int .i64 k).wf = true) :
    Calls Tryd.prog 3 #[v1, v2, .int .i64 k] w fun e w' => e = .returned (.bool true) ∧ Below w.heap.size w w' := by
  refine cps fun Q hQ => ?_
  obtain ⟨i0, hi, hz0, hz1, hz2⟩ := info_parts infoU64
  obtain ⟨i1, si, sz0, sz1, sz2⟩ := info_parts infoSl
  have bk := bounds_i64 wk
  have A1 : Hid (∀ x ∈ l1, x < 18446744073709551616) := a1
  have A2 : Hid (∀ x ∈ l2, x < 18446744073709551616) := a2
  have R1 : Hid (RowU w v1 l1) := r1
  have R2 : Hid (RowU w v2 l2) := r2
  have B1 : Hid (l1.length ≤ 1048576) := b1
  have B2 : Hid (l2.length ≤ 1048576) := b2
  clear a1 a2 r1 r2 b1 b2 wk
  obtain ⟨u, hu200, hku⟩ : ∃ u : Nat, u ≤ 200 ∧ ((k < 0 ∧ (3 : Int) = (u : Nat)) ∨ (200 < k ∧ (3 : Int) = (u : Nat)) ∨ (0 ≤ k ∧ k ≤ 200 ∧ k = (u : Nat))) := by
    by_cases h : k < 0
    · exact ⟨3, by decide, .inl ⟨h, rfl⟩⟩
    · by_cases h2 : 200 < k
      · exact ⟨3, by decide, .inr (.inl ⟨h2, rfl⟩)⟩
      · exact ⟨k.toNat, by omega, .inr (.inr ⟨by omega, by omega, by omega⟩)⟩
  rcases hku with ⟨hk, hue⟩ | ⟨hk, hue⟩ | ⟨hk, hk2, hue⟩
  all_goals
    have HU : Hid (_ = ((u : Nat) : Int)) := hue
    clear hue
    go_enter Tryd.func3, Tryd.ntmps3
    go_wp2_with (first
      | (have chk := HBX; clear chk; go_at_call 5; refine (lend_any _ l2 (Nat.le_trans B2.out (by decide)) _ ((R2.out.below HB1.out).below (HBX.out.mono (Nat.le_refl _)))).mono ?_; rintro e w3 ⟨sy, Fy, Gy, cFy, cGy, rfl, hly, hsy, hfy, hgy, hby⟩; have HLY : Hid (LentAt _ _ _ _ _ _ _ _ _) := hly; have HBY : Hid (Below _ _ _) := hby; clear hby hly)
      | (have chk := HB1; clear chk; go_at_call 5; refine (lend_any _ l1 (Nat.le_trans B1.out (by decide)) _ (R1.out.below HB1.out)).mono ?_; rintro e w2 ⟨sx, Fx, Gx, cFx, cGx, rfl, hlx, hsx, hfx, hgx, hbx⟩; have HLX : Hid (LentAt _ _ _ _ _ _ _ _ _) := hlx; have HBX : Hid (Below _ _ _) := hbx; clear hbx hlx)
      | (go_at_call 4; refine (shown_any _).mono ?_; rintro e w1 ⟨rfl, hb1⟩; have HB1 : Hid (Below _ _ _) := hb1; clear hb1))
    obtain ⟨base, hbase⟩ : ∃ b, b = w3.heap.size := ⟨_, rfl⟩
    have HBASE : Hid (base = w3.heap.size) := hbase
    have HLX3 : Hid (LentAt w3 sx Fx Gx l1.length cFx cGx (l1 ++ lentTail 5) (l1 ++ lentTail 5)) := HLX.out.below HBY.out
    have HWW : Hid (Below w.heap.size w w3) := bthen0 (bthen0 HB1.out HBX.out) HBY.out
    have zz0 := HB1.out.size
    have zz1 := HBX.out.size
    have zz2 := HBY.out.size
    obtain ⟨tx1, tx2, tx3⟩ := HLX.out.lt
    obtain ⟨ty1, ty2, ty3⟩ := HLY.out.lt
    have hHTX : w.heap.size ≤ sx ∧ w.heap.size ≤ Fx ∧ w.heap.size ≤ Gx ∧ sx < w2.heap.size ∧ Fx < w2.heap.size ∧ Gx < w2.heap.size ∧ w2.heap.size ≤ base := by omega
    have HTX : Hid (w.heap.size ≤ sx ∧ w.heap.size ≤ Fx ∧ w.heap.size ≤ Gx ∧ sx < w2.heap.size ∧ Fx < w2.heap.size ∧ Gx < w2.heap.size ∧ w2.heap.size ≤ base) := hHTX
    clear hHTX
    have hHTY : w2.heap.size ≤ sy ∧ w2.heap.size ≤ Fy ∧ w2.heap.size ≤ Gy ∧ sy < base ∧ Fy < base ∧ Gy < base ∧ w.heap.size ≤ w2.heap.size := by omega
    have HTY : Hid (w2.heap.size ≤ sy ∧ w2.heap.size ≤ Fy ∧ w2.heap.size ≤ Gy ∧ sy < base ∧ Fy < base ∧ Gy < base ∧ w.heap.size ≤ w2.heap.size) := hHTY
    clear hHTY
    clear zz0 zz1 zz2 tx1 tx2 tx3 ty1 ty2 ty3
    clear hbase hsx hfx hgx hsy hfy hgy
    go_loopw [11, 13] (fun lv iv wr => ∃ (i : Nat) (xs : List Value), i ≤ 2 ∧ iv = .int .i64 i ∧ Hid (xs.length = 10 * i) ∧ Hid (wr.ownsRow base 22 1 lv (10 * i) xs) ∧ Hid (RsL base wr (tenR (uval l1) (uval l2) u) xs) ∧ Hid (Below base w3 wr)) (fun _ iv _ => 2 - (intOf iv).toNat)
    case atStart => exact ⟨0, [], by decide, rfl, rfl, World.ownsRow_nil _ _ _ _, RsL.nil _ _ _, Below.refl _ _⟩
    case round =>
      rename World => wo
      obtain ⟨i, xs, hi2, rfl, HXL, HO, HS, HB⟩ := hrel
      by_cases hlt : i < 2
      · have HZ0 : Hid (base ≤ wo.heap.size) := by show _ ≤ _; rw [HBASE.out]; exact HB.out.size
        have HBo : Hid (Below wo.heap.size wo wo) := Below.refl _ _
        have HXl : Hid (∀ wz, Below wo.heap.size wo wz → LentAt wz sx Fx Gx l1.length cFx cGx (l1 ++ lentTail 5) (l1 ++ lentTail 5)) := fun wz h => (HLX3.out.below (HBASE.out ▸ HB.out)).below h
        have HYl : Hid (∀ wz, Below wo.heap.size wo wz → LentAt wz sy Fy Gy l2.length cFy cGy (l2 ++ lentTail 5) (l2 ++ lentTail 5)) := fun wz h => (HLY.out.below (HBASE.out ▸ HB.out)).below h
        have HXR : Hid (∀ wz, Below wo.heap.size wo wz → RowU wz (.slice (some ⟨Fx, 0, none⟩) l1.length cFx) l1) := fun wz h => by
          have := (HXl.out wz h).row
          rwa [List.take_left] at this
        have HYR : Hid (∀ wz, Below wo.heap.size wo wz → RowU wz (.slice (some ⟨Fy, 0, none⟩) l2.length cFy) l2) := fun wz h => by
          have := (HYl.out wz h).row
          rwa [List.take_left] at this
        have HOW : Hid (∀ wz, Below wo.heap.size wo wz → wz.ownsRow base 22 1 _ (10 * i) xs) := fun wz h => owns_chg HO.out (Chg.below h) fun g hg => by have := (HO.out.lt g hg).2; omega
        have hmx : 10 * i + 10 ≤ maxLen := by unfold maxLen; omega
        have hby : (10 * i + 10) * 24 ≤ 140737488355328 := by omega
        have HZ : Hid (∀ wz, Below wo.heap.size wo wz → base ≤ wz.heap.size) := fun wz h => Nat.le_trans HZ0.out h.size
        go_wp2_with (first
      | (at_builtin; go_must (refine wpList_append_own _ rfl _ _ 27 rfl base 22 i1 (.slice none 0 0) 1 24 Tryd.underlying27 si sz0 sz1 sz2 rfl (by decide) _ (10 * i) xs rfl (HOW.out _ (bmore0 HBo.out _)) ⟨_, 0, none⟩ 10 10 [.slice a0 n0 n0, .slice a1 n1 n1, .slice a2 n2 n2, .slice a3 n3 n3, .slice a4 n4 n4, .slice a5 n5 n5, .slice a6 n6 n6, .slice a7 n7 n7, .slice a8 n8 n8, .slice a9 n9 n9] rfl rfl (lit_news _ #[.slice a0 n0 n0, .slice a1 n1 n1, .slice a2 n2 n2, .slice a3 n3 n3, .slice a4 n4 n4, .slice a5 n5 n5, .slice a6 n6 n6, .slice a7 n7 n7, .slice a8 n8 n8, .slice a9 n9 n9] _) (by intro y hy; simp at hy; rcases hy with rfl | rfl | rfl | rfl | rfl | rfl | rfl | rfl | rfl | rfl <;> rfl) hmx hby (HZ.out _ (bmore0 HBo.out _)) ?_); intro v' w6 hown6 hg6 _; have hs6 := owns_step (n := 10 * i) (m := 0) (v' := v') (ys := [.slice a0 n0 n0, .slice a1 n1 n1, .slice a2 n2 n2, .slice a3 n3 n3, .slice a4 n4 n4, .slice a5 n5 n5, .slice a6 n6 n6, .slice a7 n7 n7, .slice a8 n8 n8, .slice a9 n9 n9]) HB.out HZ0.out HBo.out (bmore0 (Below.refl _ _) _) (HOW.out _ (bmore0 HBo.out _)) (by simpa using HS.out) hg6; have HO6 : Hid (World.ownsRow _ _ _ _ _ _ _) := hown6; have HS6 : Hid (RsL _ _ _ _ ∧ _) := hs6; clear hown6 hg6 hs6)
      | (have chk := T8; clear chk; go_at_call 11; refine (shl_ownI _ l1 A1.out B1.out 0 0 (by decide) rfl _ (HXR.out _ HBo.out)).mono ?_; rintro e w9 ⟨v9, ev9, rfl, hv, hb⟩; obtain ⟨a9, n9, hve⟩ := hv.form; subst hve; have hs := RsL.nextL HS.out hb hv (10 * i + 9) (by simp [HXL.out]) ((tenR_at (uval l1) (uval l2) u i 9 (by decide)).trans (by simp [tenN])) (HZ.out _ HBo.out); have HBo2 : Hid (Below _ _ _) := (bthen0 HBo.out hb); have HS2 : Hid (RsL _ _ _ _) := hs; clear hs hv hb HS HBo; have HS := HS2; have HBo := HBo2; clear HS2 HBo2; have T9 : True := trivial)
      | (have chk := T7; clear chk; go_at_call 12; refine (shr_ownI _ l1 A1.out B1.out _ u hu200 HU.out _ (HXR.out _ HBo.out)).mono ?_; rintro e w9 ⟨v8, ev8, ew8, rfl, hv, hb⟩; obtain ⟨a8, n8, hve⟩ := hv.form; subst hve; have hs := RsL.nextL HS.out hb hv (10 * i + 8) (by simp [HXL.out]) (tenR_at (uval l1) (uval l2) u i 8 (by decide)) (HZ.out _ HBo.out); have HBo2 : Hid (Below _ _ _) := (bthen0 HBo.out hb); have HS2 : Hid (RsL _ _ _ _) := hs; clear hs hv hb HS HBo; have HS := HS2; have HBo := HBo2; clear HS2 HBo2; have T8 : True := trivial)
      | (have chk := T6; clear chk; go_at_call 11; refine (shl_ownI _ l1 A1.out B1.out _ u hu200 HU.out _ (HXR.out _ HBo.out)).mono ?_; rintro e w9 ⟨v7, ev7, rfl, hv, hb⟩; obtain ⟨a7, n7, hve⟩ := hv.form; subst hve; have hs := RsL.nextL HS.out hb hv (10 * i + 7) (by simp [HXL.out]) (tenR_at (uval l1) (uval l2) u i 7 (by decide)) (HZ.out _ HBo.out); have HBo2 : Hid (Below _ _ _) := (bthen0 HBo.out hb); have HS2 : Hid (RsL _ _ _ _) := hs; clear hs hv hb HS HBo; have HS := HS2; have HBo := HBo2; clear HS2 HBo2; have T7 : True := trivial)
      | (have chk := T4; clear chk; go_at_call 10; refine (div_own _ _ l1 l2 A1.out A2.out B1.out B2.out _ (HXR.out _ HBo.out) (HYR.out _ HBo.out)).mono ?_; rintro e w9 ⟨v5, v6, ev5, rfl, hv, hb⟩; obtain ⟨a5, n5, hve⟩ := hv.form1; subst hve; obtain ⟨a6, n6, hve⟩ := hv.form2; subst hve; have hs := RsL.nextM HS.out hb hv (10 * i + 5) (by simp [HXL.out]) (tenR_at (uval l1) (uval l2) u i 5 (by decide)) (tenR_at (uval l1) (uval l2) u i 6 (by decide)) (HZ.out _ HBo.out); have HBo2 : Hid (Below _ _ _) := (bthen0 HBo.out hb); have HS2 : Hid (RsL _ _ _ _) := hs; clear hs hv hb HS HBo; have HS := HS2; have HBo := HBo2; clear HS2 HBo2; have T5 : True := trivial; have T6 : True := trivial)
      | (have chk := T3; clear chk; go_at_call 9; refine (sub_own _ _ l1 l2 A1.out A2.out B1.out B2.out _ (HXR.out _ HBo.out) (HYR.out _ HBo.out)).mono ?_; rintro e w9 ⟨v4, ev4, rfl, hv, hb⟩; obtain ⟨a4, n4, hve⟩ := hv.form; subst hve; have hs := RsL.nextL HS.out hb hv (10 * i + 4) (by simp [HXL.out]) (tenR_at (uval l1) (uval l2) u i 4 (by decide)) (HZ.out _ HBo.out); have HBo2 : Hid (Below _ _ _) := (bthen0 HBo.out hb); have HS2 : Hid (RsL _ _ _ _) := hs; clear hs hv hb HS HBo; have HS := HS2; have HBo := HBo2; clear HS2 HBo2; have T4 : True := trivial)
      | (have chk := T2; clear chk; go_at_call 8; refine (mul1_own l2 A2.out B2.out _ _ (rowUU_one _ 23 (HYR.out _ HBo.out))).mono ?_; rintro e w9 ⟨v3, rfl, hv, hb⟩; obtain ⟨a3, n3, hve⟩ := hv.form; subst hve; have hs := RsL.nextL ((HS.out.below (bmore0 (Below.refl _ _) _))) hb hv (10 * i + 3) (by simp [HXL.out]) (tenR_at (uval l1) (uval l2) u i 3 (by decide)) (by have := HZ.out _ HBo.out; simp; omega); have HBo2 : Hid (Below _ _ _) := (bthen0 (bmore0 HBo.out _) hb); have HS2 : Hid (RsL _ _ _ _) := hs; clear hs hv hb HS HBo; have HS := HS2; have HBo := HBo2; clear HS2 HBo2; have T3 : True := trivial)
      | (have chk := T1; clear chk; go_at_call 8; refine (mul2_own l1 l2 A1.out A2.out B1.out B2.out _ _ (rowUU_two _ 23 (HXR.out _ HBo.out) (HYR.out _ HBo.out))).mono ?_; rintro e w9 ⟨v2, rfl, hv, hb⟩; obtain ⟨a2, n2, hve⟩ := hv.form; subst hve; have hs := RsL.nextL ((HS.out.below (bmore0 (Below.refl _ _) _))) hb hv (10 * i + 2) (by simp [HXL.out]) (tenR_at (uval l1) (uval l2) u i 2 (by decide)) (by have := HZ.out _ HBo.out; simp; omega); have HBo2 : Hid (Below _ _ _) := (bthen0 (bmore0 HBo.out _) hb); have HS2 : Hid (RsL _ _ _ _) := hs; clear hs hv hb HS HBo; have HS := HS2; have HBo := HBo2; clear HS2 HBo2; have T2 : True := trivial)
      | (have chk := T0; clear chk; go_at_call 6; refine (add1_own l1 A1.out B1.out _ _ (rowUU_one _ 23 (HXR.out _ HBo.out))).mono ?_; rintro e w9 ⟨v1, rfl, hv, hb⟩; obtain ⟨a1, n1, hve⟩ := hv.form; subst hve; have hs := RsL.nextL ((HS.out.below (bmore0 (Below.refl _ _) _))) hb hv (10 * i + 1) (by simp [HXL.out]) (tenR_at (uval l1) (uval l2) u i 1 (by decide)) (by have := HZ.out _ HBo.out; simp; omega); have HBo2 : Hid (Below _ _ _) := (bthen0 (bmore0 HBo.out _) hb); have HS2 : Hid (RsL _ _ _ _) := hs; clear hs hv hb HS HBo; have HS := HS2; have HBo := HBo2; clear HS2 HBo2; have T1 : True := trivial)
      | (go_at_call 6; refine (add2_own (.slice none 0 0) (.slice none 0 0) l1 l2 A1.out A2.out B1.out B2.out _ _ (rowUU_two _ 23 (HXR.out _ HBo.out) (HYR.out _ HBo.out))).mono ?_; rintro e w9 ⟨v0, rfl, hv, hb⟩; obtain ⟨a0, n0, hve⟩ := hv.form; subst hve; have hs := RsL.nextL ((HS.out.below (bmore0 (Below.refl _ _) _))) hb hv (10 * i + 0) (by simp [HXL.out]) (tenR_at (uval l1) (uval l2) u i 0 (by decide)) (by have := HZ.out _ HBo.out; simp; omega); have HBo2 : Hid (Below _ _ _) := (bthen0 (bmore0 HBo.out _) hb); have HS2 : Hid (RsL _ _ _ _) := hs; clear hs hv hb HS HBo; have HS := HS2; have HBo := HBo2; clear HS2 HBo2; have T0 : True := trivial)
      | (go_at_call_of 7 sx; refine (list_b sx _ _ _ _ _ _ _ _ (HXl.out _ HBo.out)).mono ?_; rintro e w8 ⟨rfl, hb⟩; have HS2 : Hid (RsL _ _ _ _) := HS.out.below hb; have HBo2 : Hid (Below _ _ _) := bthen0 HBo.out hb; clear HS HBo hb; have HS := HS2; have HBo := HBo2; clear HS2 HBo2)
      | (go_at_call_of 7 sy; refine (list_b sy _ _ _ _ _ _ _ _ (HYl.out _ HBo.out)).mono ?_; rintro e w8 ⟨rfl, hb⟩; have HS2 : Hid (RsL _ _ _ _) := HS.out.below hb; have HBo2 : Hid (Below _ _ _) := bthen0 HBo.out hb; clear HS HBo hb; have HS := HS2; have HBo := HBo2; clear HS2 HBo2))
        go_roundw
        case rel => exact ⟨i + 1, _, by omega, by go_num, by show _ = _; rw [List.length_append, HXL.out]; simp; omega, by show World.ownsRow _ _ _ _ _ _ _; rw [show 10 * (i + 1) = 10 * i + 10 by omega]; exact HO6.out, HS6.out.1, HS6.out.2⟩
        case measure => simp [intOf]; omega
      · have hi20 : i = 2 := by omega
        obtain ⟨N, hN⟩ : ∃ N : Nat, N = 10 * i := ⟨_, rfl⟩
        have hO := HO.out
        rw [← hN] at hO
        obtain ⟨vs, hvs, hmap⟩ := HS.out
        rw [HXL.out, ← hN] at hvs hmap
        rw [← hmap] at hO
        obtain ⟨lg, lc, hlv, hlg, hll⟩ := hO.form (by omega)
        subst hlv
        obtain ⟨ao', c', he, hlc, hlc2⟩ := owns_slice hO
        injection he with e1 e2 e3
        subst e1 e3
        have hN20 : N = 20 := by omega
        have HN : Hid (N = 20) := hN20
        have hN0 : 0 < N := by omega
        have hNm : N ≤ 1000 := by omega
        have HL : Hid (wo.ownsRow base 22 1 (.slice (some ⟨lg, 0, none⟩) N lc) N ((List.range N).map vs)) := hO
        have HR : Hid (Rs base wo N vs (tenR (uval l1) (uval l2) u)) := hvs
        have HZ0 : Hid (base ≤ wo.heap.size) := by show _ ≤ _; rw [HBASE.out]; exact HB.out.size
        have HLEN : Hid (∀ j, (tenR (uval l1) (uval l2) u j).length ≤ 2097160) := fun j => tenR_len l1 l2 A1.out A2.out B1.out B2.out u j hu200
        have HMOD : Hid (∀ j, tenR (uval l1) (uval l2) u (j % 10) = tenR (uval l1) (uval l2) u j) := tenR_mod (uval l1) (uval l2) u
        clear hO hvs hmap HO HS HXL e2 hN hi2 hi20 hN20
        generalize tenR (uval l1) (uval l2) u = R at *
        go_wp2
        clear hlt
        go_loopw [12, 30] (fun wv iv wr => ∃ j : Nat, j ≤ N ∧ iv = .int .i64 j ∧ Hid (Wants wo.heap.size wr R wv j) ∧ Hid (Below wo.heap.size wo wr)) (fun _ iv _ => N - (intOf iv).toNat)
        case atStart => exact ⟨0, Nat.zero_le _, rfl, Wants.start _ _ _, Below.refl _ _⟩
        case round =>
          rename World => wr
          obtain ⟨j, hjN, rfl, HW, HBr⟩ := hrel
          by_cases hlt2 : j < N
          · have hcl : wr.cell? ⟨lg, j, none⟩ = some (vs j) := list_cell (owns_chg HL.out (Chg.below HBr.out) fun g hg => by have := (HL.out.lt g hg).2; omega) j hlt2
            have hrow : RowU wr (vs j) (R j) := ((HR.out.each j hlt2).below HBr.out).row
            obtain ⟨us, hus, hrows⟩ := HW.out
            have hln := HLEN.out j
            obtain ⟨n, hnn⟩ : ∃ n, n = (R j).length := ⟨_, rfl⟩
            obtain ⟨ao, cc, hva⟩ := hrow.form
            rw [← hnn] at hva hln
            have HVA : Hid (vs j = .slice ao n cc) := hva
            have HNN : Hid (n = (R j).length) := hnn
            rw [hva] at hcl hrow
            have HROW : Hid (RowU wr (.slice ao n cc) (R j)) := hrow
            have HUS : Hid (World.ownsRow _ _ _ _ _ _ _) := hus
            have HROWS : Hid (∀ k, k < j → ∃ u, us[k]? = some u ∧ wr.ownsRow wo.heap.size 42 1 u (R k).length ((R k).map encU)) := hrows
            have hzr := HBr.out.size
            have hby1 : (0 + (R j).length) * 8 ≤ 140737488355328 := by rw [← HNN.out]; omega
            have hby3 : (j + 1) * 24 ≤ 140737488355328 := by omega
            clear hus hrows HW hva hnn hrow
            go_wp2_with (first
              | (have chk := HO5; clear chk; at_builtin; go_must (refine append1 rfl _ _ 27 rfl wo.heap.size 22 i1 (.slice none 0 0) 24 Tryd.underlying27 si sz0 sz1 sz2 rfl _ _ _ HUS5.out rfl rfl rfl hby3 (by decide) hz5 ?_); intro v6 w6 hown6 hb6 _ hg6; have HO6 : Hid (World.ownsRow _ _ _ _ _ _ _) := hown6; have HG6 : Hid (World.grownBy _ _ _) := hg6; have HB6 : Hid (Below _ _ _) := hb6; clear hown6 hg6 hb6)
              | (at_builtin; go_must (refine appendU rfl _ _ 22 rfl wo.heap.size i0 Tryd.underlying22 hi hz0 hz1 hz2 (.slice none 0 0) 0 [] rfl (World.ownsRow_nil _ _ _ _) _ (R j) rfl HROW.out hby1 hzr ?_); intro v5 w5 hown5 hg5; obtain ⟨ao5, c5, hv5, _, _⟩ := owns_slice hown5; subst hv5; have HB5 : Hid (Below wr.heap.size wr w5) := ⟨hg5.os, hg5.tape, hg5.output, hg5.size, fun k hk => hg5.block k hk (by simp [Value.ownBlock])⟩; have hz5 := Nat.le_trans hzr HB5.out.size; have HUS5 : Hid (World.ownsRow _ _ _ _ _ _ _) := owns_chg HUS.out (Chg.below HB5.out) (fun g hg => by have := (HUS.out.lt g hg).2; omega); have HO5 : Hid (World.ownsRow _ _ _ _ _ _ _) := hown5; clear hown5 hg5))
            go_roundw
            case measure => simp [intOf]; omega
            case rel =>
             refine ⟨j + 1, by omega, by go_num, ?_, ?_⟩
             · refine Wants.step HUS5.out (fun k hk => ?_) (by have := HO5.out; rw [Nat.zero_add, List.nil_append] at this; exact this) HO6.out HG6.out
               obtain ⟨x, h1, h2⟩ := HROWS.out k hk
               exact ⟨x, h1, owns_chg h2 (Chg.below HB5.out) fun g hg => by have := (h2.lt g hg).2; omega⟩
             · exact (HBr.out.trans (HB5.out.mono hzr)).trans HB6.out
          · have hjN2 : j = N := by omega
            have hW := HW.out
            rw [hjN2] at hW
            obtain ⟨us, hus, hrows⟩ := hW
            obtain ⟨wg, wc, hwv, hwg, hwl⟩ := hus.form hN0
            subst hwv
            obtain ⟨ao', c', he, hwc, hwc2⟩ := owns_slice hus
            injection he with e1 e2 e3
            subst e1 e3
            have HW5 : Hid (Wants wo.heap.size wr R (.slice (some ⟨wg, 0, none⟩) N wc) N) := ⟨us, hus, hrows⟩
            have HX5 : Hid (LentAt wr sx Fx Gx l1.length cFx cGx (l1 ++ lentTail 5) (l1 ++ lentTail 5)) := (HLX3.out.below (HBASE.out ▸ HB.out)).below HBr.out
            have HY5 : Hid (LentAt wr sy Fy Gy l2.length cFy cGy (l2 ++ lentTail 5) (l2 ++ lentTail 5)) := (HLY.out.below (HBASE.out ▸ HB.out)).below HBr.out
            have HWr : Hid (Below w.heap.size w wr) := bthen0 (bthen0 HWW.out (HBASE.out ▸ HB.out)) HBr.out
            have HL5 : Hid (wr.ownsRow base 22 1 (.slice (some ⟨lg, 0, none⟩) N lc) N ((List.range N).map vs)) := owns_chg HL.out (Chg.below HBr.out) fun g hg => by have := (HL.out.lt g hg).2; omega
            have HR5 : Hid (Rs base wr N vs R) := HR.out.chg (Chg.below HBr.out) fun g L hL _ => by have := hL.lt; omega
            have HZr : Hid (wo.heap.size ≤ wr.heap.size) := HBr.out.size
            have hk1 : l1.length ≤ 16777216 := Nat.le_trans B1.out (by decide)
            have hk2 : l2.length ≤ 16777216 := Nat.le_trans B2.out (by decide)
            have HNB : Hid (l1.length ≤ 16777216 ∧ l2.length ≤ 16777216) := ⟨hk1, hk2⟩
            clear hus hrows HW HL HR e2 hk1 hk2 HLX HLY HLX3
            go_wp2_with (first
              | (have chk := HX8; clear chk; go_at_call_of 14 sy; refine (turn_any sy _ _ _ _ _ _ _ HNB.out.2 _ HY8.out).mono ?_; rintro e w9 ⟨rfl, hy9, hc9⟩; have HY9 : Hid (LentAt _ _ _ _ _ _ _ _ _) := hy9; have HC9 : Hid (Chg _ _ _) := hc9; clear hy9 hc9)
              | (have chk := HK7; clear chk; go_at_call_of 14 sx; refine (turn_any sx _ _ _ _ _ _ _ HNB.out.1 _ ((HX5.out.below HK6.out).below HK7.out)).mono ?_; rintro e w8 ⟨rfl, hx8, hc8⟩; have HX8 : Hid (LentAt _ _ _ _ _ _ _ _ _) := hx8; have HC8 : Hid (Chg _ _ _) := hc8; have HY8 : Hid (LentAt _ _ _ _ _ _ _ _ _) := ((HY5.out.below HK6.out).below HK7.out).chg hc8 (by have h1 := HTX.out; have h2 := HTY.out; omega) (by have h1 := HTX.out; have h2 := HTY.out; omega) (by have h1 := HTX.out; have h2 := HTY.out; omega); clear hx8 hc8)
              | (have chk := HK6; clear chk; go_at_call_of 13 sy; refine (kept_b sy _ _ _ _ _ _ HNB.out.2 _ (HY5.out.below HK6.out)).mono ?_; rintro e w7 ⟨rfl, hb7⟩; have HK7 : Hid (Below _ _ _) := hb7; clear hb7)
              | (go_at_call_of 13 sx; refine (kept_b sx _ _ _ _ _ _ HNB.out.1 _ HX5.out).mono ?_; rintro e w6 ⟨rfl, hb6⟩; have HK6 : Hid (Below _ _ _) := hb6; clear hb6))
            have hC : Chg (fun k => k < base ∨ wr.heap.size ≤ k) wr w9 := by
              have h1 := HTX.out
              have h2 := HTY.out
              have z6 := HK6.out.size
              exact ((((Chg.below HK6.out).mono (fun k hk => .inr hk)).trans ((Chg.below HK7.out).mono (fun k hk => .inr (by omega)))).trans (HC8.out.mono (fun k hk => .inl (by omega)))).trans (HC9.out.mono (fun k hk => .inl (by omega)))
            have HX9 : Hid (LentAt w9 sx Fx Gx l1.length cFx cGx (turned (l1.length + 5)) (turned (l1.length + 5))) := HX8.out.chg HC9.out (by have h1 := HTX.out; have h2 := HTY.out; omega) (by have h1 := HTX.out; have h2 := HTY.out; omega) (by have h1 := HTX.out; have h2 := HTY.out; omega)
            have HL9 : Hid (w9.ownsRow base 22 1 (.slice (some ⟨lg, 0, none⟩) N lc) N ((List.range N).map vs)) := owns_chg HL5.out hC fun g hg => by have := HL5.out.lt g hg; omega
            have HR9 : Hid (Rs base w9 N vs R) := HR5.out.chg hC fun g L hL hbg => by have := hL.lt; omega
            have HW9 : Hid (Wants wo.heap.size w9 R (.slice (some ⟨wg, 0, none⟩) N wc) N) := HW5.out.chg hC fun g hg1 hg2 => by have := HZ0.out; omega
            have HWn : Hid (Below w.heap.size w w9) := by
              have h1 := HTX.out
              have h2 := HTY.out
              have z0 := HWr.out.size
              have z6 := HK6.out.size
              have z7 := HK7.out.size
              have z8 := HC8.out.size
              exact ((bthen0 (bthen0 HWr.out HK6.out) HK7.out).trans (below_turn HC8.out (by omega) fun k hk => by omega)).trans (below_turn HC9.out (by omega) fun k hk => by omega)
            have HZ9 : Hid (base ≤ w9.heap.size) := by have h1 := hC.size; have h2 := HZr.out; have h3 := HZ0.out; show _ ≤ _; omega
            clear hC HL5 HR5 HW5 HX5 HY5 HX8 HY8 HC8 HC9 HK6 HK7 HWr
            go_loopw [34] (fun iv wy => ∃ j2 q : Nat, j2 ≤ N ∧ iv = .int .i64 j2 ∧ wy = w9.drewN q) (fun iv _ => N - (intOf iv).toNat)
            case atStart => exact ⟨0, 0, Nat.zero_le _, rfl, rfl⟩
            case round =>
              rename World => wy
              obtain ⟨j2, q, hj2N, rfl, hwy⟩ := hrel
              have HWY : Hid (wy = w9.drewN q) := hwy
              by_cases hlt3 : j2 < N
              · have hcl : wy.cell? ⟨lg, j2, none⟩ = some (vs j2) := by rw [hwy]; exact list_cell HL9.out j2 hlt3
                obtain ⟨x1, hx1, hr1⟩ := HW9.out.cell j2 hlt3
                have hm10 : j2 % 10 < N := by have := HN.out; omega
                obtain ⟨x2, hx2, hr2⟩ := HW9.out.cell (j2 % 10) hm10
                rw [HMOD.out] at hr2
                have hr0 := (HR9.out.each j2 hlt3).row
                have hbw : Below w9.heap.size w9 wy := by rw [hwy]; exact below_drewN (Below.refl _ _) q
                replace hx1 : wy.cell? ⟨wg, j2, none⟩ = some x1 := by rw [hwy]; exact hx1
                replace hx2 : wy.cell? ⟨wg, j2 % 10, none⟩ = some x2 := by rw [hwy]; exact hx2
                have e10 : (j2 : Int) % 10 = ((j2 % 10 : Nat) : Int) := by omega
                have e11 : Int.tmod (j2 : Int) 10 = ((j2 % 10 : Nat) : Int) := by rw [Int.tmod_eq_emod_of_nonneg (by omega)]; exact e10
                generalize j2 % 10 = m10 at *
                replace hr0 := hr0.below hbw
                replace hr1 := hr1.below hbw
                replace hr2 := hr2.below hbw
                obtain ⟨n, hnn⟩ : ∃ n, n = (R j2).length := ⟨_, rfl⟩
                obtain ⟨a0, c0, hv0⟩ := hr0.form
                obtain ⟨a1, c1, hv1⟩ := hr1.form
                obtain ⟨a2, c2, hv2⟩ := hr2.form
                rw [← hnn] at hv0 hv1 hv2
                rw [hv0] at hcl hr0
                subst hv1
                subst hv2
                have HROW0 : Hid (RowU wy (.slice a0 n c0) (R j2)) := hr0
                have HROW1 : Hid (RowU wy (.slice a1 n c1) (R j2)) := hr1
                have HROW2 : Hid (RowU wy (.slice a2 n c2) (R j2)) := hr2
                clear hr0 hr1 hr2 hnn hv0 hwy hbw
                go_wp2
                go_quiet ((go_at_call 15; exact same_q _ _ HROW0.out HROW1.out))
                obtain ⟨wz, hwz⟩ : ∃ wz, wz = wy.drewN nq := ⟨_, rfl⟩
                rw [← hwz]
                have HWZ : Hid (wz = wy.drewN nq) := hwz
                have hcl2 : wz.cell? ⟨lg, j2, none⟩ = some (.slice a0 n c0) := by rw [hwz]; exact hcl
                have hx22 : wz.cell? ⟨wg, m10, none⟩ = some (.slice a2 n c2) := by rw [hwz]; exact hx2
                have HROWa : Hid (RowU wz (.slice a0 n c0) (R j2)) := by rw [hwz]; exact HROW0.out.below (below_drewN (Below.refl _ _) _)
                have HROWb : Hid (RowU wz (.slice a2 n c2) (R j2)) := by rw [hwz]; exact HROW2.out.below (below_drewN (Below.refl _ _) _)
                clear hwz
                go_wp2
                go_quiet ((go_at_call 15; exact same_q _ _ HROWa.out HROWb.out))
                go_wp2
                go_roundw
                case rel => exact ⟨j2 + 1, _, by omega, by go_num, by rw [HWZ.out, HWY.out, World.drewN_drewN, World.drewN_drewN]⟩
                case measure => simp [intOf]; omega
              · have hbw : Below w9.heap.size w9 wy := by rw [hwy]; exact below_drewN (Below.refl _ _) q
                have HBW : Hid (Below w9.heap.size w9 wy) := hbw
                have HLy : Hid (wy.ownsRow base 22 1 (.slice (some ⟨lg, 0, none⟩) N lc) N ((List.range N).map vs)) := owns_chg HL9.out (Chg.below hbw) fun g hg => by have := (HL9.out.lt g hg).2; omega
                have HRy : Hid (Rs base wy N vs R) := HR9.out.chg (Chg.below hbw) fun g L hL _ => by have := hL.lt; omega
                have HXy : Hid (LentAt wy sx Fx Gx l1.length cFx cGx (turned (l1.length + 5)) (turned (l1.length + 5))) := HX9.out.below hbw
                have HYy : Hid (LentAt wy sy Fy Gy l2.length cFy cGy (turned (l2.length + 5)) (turned (l2.length + 5))) := HY9.out.below hbw
                have HZy : Hid (base ≤ wy.heap.size) := Nat.le_trans HZ9.out hbw.size
                have hleN : ∀ j, j < N → (R j).length ≤ 16777216 := fun j _ => Nat.le_trans (HLEN.out j) (by decide)
                have HLN : Hid _ := hleN
                clear hbw hwy HL9 HR9 HX9 HY9 HW9 hleN
                go_wp2_with (first
                  | (have chk := HK11; clear chk; go_at_call_of 13 sy; refine (kept_b sy _ _ _ _ _ _ HNB.out.2 _ (HYa.out.below HK11.out)).mono ?_; rintro e w12 ⟨rfl, hb12⟩; have HK12 : Hid (Below _ _ _) := hb12; clear hb12)
                  | (have chk := HA10; clear chk; go_at_call_of 13 sx; refine (kept_b sx _ _ _ _ _ _ HNB.out.1 _ HXa.out).mono ?_; rintro e w11 ⟨rfl, hb11⟩; have HK11 : Hid (Below _ _ _) := hb11; clear hb11)
                  | (go_at_call 16; refine (apart_any base N _ vs R hN0 hNm HLN.out _ HZy.out HLy.out HRy.out).mono ?_; rintro e w10 ⟨rfl, hb10⟩; have HA10 : Hid (Below _ _ _) := hb10; have HXa : Hid (LentAt _ _ _ _ _ _ _ _ _) := HXy.out.chg (Chg.below hb10) (by have h1 := HTX.out; omega) (by have h1 := HTX.out; omega) (by have h1 := HTX.out; omega); have HYa : Hid (LentAt _ _ _ _ _ _ _ _ _) := HYy.out.chg (Chg.below hb10) (by have h1 := HTY.out; omega) (by have h1 := HTY.out; omega) (by have h1 := HTY.out; omega); clear hb10))
                refine hQ.out _ _ ⟨by first | rfl | simp, ?_⟩
                have z1 := HTX.out
                exact bthen0 (bthen0 ((bthen0 HWn.out HBW.out).trans (HA10.out.mono (by omega))) HK11.out) HK12.out
end Go.Proofs.YtckmmdmimlhmoaaDoor
