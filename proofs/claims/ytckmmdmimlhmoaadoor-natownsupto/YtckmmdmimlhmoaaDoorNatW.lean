import Derived.Test.YtckmmdmimlhmoaaDoorNatU
namespace Go.Proofs.YtckmmdmimlhmoaaDoor
open Go.ChangeShapes Go.WideShapes Go.ChangeAt Go.RowKit Go.Shelf
set_option linter.unusedVariables false
set_option linter.unusedSimpArgs false
set_option maxRecDepth 100000
attribute [local go_sem] Oper.semAt_some

/-! ### numbers compared -/
theorem cmp_limbs (a b : List Nat) (ha : Limbs a) (hb : Limbs b) (hn : a.length = b.length) (i : Nat) (hi : i < a.length) (h : ∀ j, i < j → a.getD j 0 = b.getD j 0) (hne : a.getD i 0 ≠ b.getD i 0) :
    cmpN (uval a) (uval b) = cmpN (a.getD i 0) (b.getD i 0) := by
  have e1 := uval_top a i
  have e2 := uval_top b i
  rw [Nat.min_eq_left (by omega), uval_drop' a i hi] at e1
  rw [Nat.min_eq_left (by omega), uval_drop' b i (by omega)] at e2
  have e3 : uval (a.drop (i + 1)) = uval (b.drop (i + 1)) := by
    congr 1
    apply List.ext_getElem
    · simp [hn]
    · intro j h1 h2
      have := h (i + 1 + j) (by omega)
      simp only [List.length_drop] at h1 h2
      rw [List.getElem_drop, List.getElem_drop]
      rw [List.getD_eq_getElem?_getD, List.getD_eq_getElem?_getD, List.getElem?_eq_getElem (by omega), List.getElem?_eq_getElem (by omega)] at this
      exact this
  have l1 : uval (a.take i) < 18446744073709551616 ^ i := by
    have := uval_lt' (a.take i) (fun d h => ha d (List.mem_of_mem_take h))
    rwa [List.length_take, Nat.min_eq_left (by omega)] at this
  have l2 : uval (b.take i) < 18446744073709551616 ^ i := by
    have := uval_lt' (b.take i) (fun d h => hb d (List.mem_of_mem_take h))
    rwa [List.length_take, Nat.min_eq_left (by omega)] at this
  rw [e3] at e1
  generalize a.getD i 0 = x at *
  generalize b.getD i 0 = y at *
  generalize uval (b.drop (i + 1)) = t at *
  generalize uval (a.take i) = p at *
  generalize uval (b.take i) = r at *
  generalize 18446744073709551616 ^ i = B at *
  rcases Nat.lt_or_gt_of_ne hne with g | g
  · rw [cmpN_lt g, cmpN_lt]
    rw [e1, e2]
    have := Nat.mul_le_mul_left B (show x + 18446744073709551616 * t + 1 ≤ y + 18446744073709551616 * t by omega)
    rw [Nat.mul_add B _ 1] at this
    omega
  · rw [cmpN_gt g, cmpN_gt]
    rw [e1, e2]
    have := Nat.mul_le_mul_left B (show y + 18446744073709551616 * t + 1 ≤ x + 18446744073709551616 * t by omega)
    rw [Nat.mul_add B _ 1] at this
    omega
theorem cmp_length (x y : Nat) (h : (lim x).length ≠ (lim y).length) : cmpN x y = cmpN (lim x).length (lim y).length := by
  rcases Nat.lt_or_gt_of_ne h with g | g
  · rw [cmpN_lt g, cmpN_lt (lim_length_lt g)]
  · rw [cmpN_gt g, cmpN_gt (lim_length_lt g)]
theorem cmp_same (x y : Nat) (hn : (lim x).length = (lim y).length) (h : ∀ j, j < (lim x).length → (lim x).getD j 0 = (lim y).getD j 0) : x = y := by
  apply lim_inj
  apply List.ext_getElem hn
  intro j h1 h2
  have := h j h1
  rw [List.getD_eq_getElem?_getD, List.getD_eq_getElem?_getD, List.getElem?_eq_getElem h1, List.getElem?_eq_getElem h2] at this
  exact this

theorem nan_int (a : Int) (w : World) : Calls Tryd.prog 51 #[.int .i64 a] w fun e w' => e = .returned (.bool false) ∧ w' = w := by
  refine cps fun Q hQ => ?_
  go_enter Tryd.func51, Tryd.ntmps51
  go_wp2
  exact hQ.out _ _ ⟨rfl, rfl⟩
theorem nan_u64 (a : Nat) (w : World) : Calls Tryd.prog 52 #[.int .u64 a] w fun e w' => e = .returned (.bool false) ∧ w' = w := by
  refine cps fun Q hQ => ?_
  go_enter Tryd.func52, Tryd.ntmps52
  go_wp2
  exact hQ.out _ _ ⟨rfl, rfl⟩
theorem cmpint_any (a b : Nat) (w : World) : Calls Tryd.prog 40 #[.int .i64 a, .int .i64 b] w fun e w' => e = .returned (.int .i64 (cmpN a b)) ∧ w' = w := by
  have k := fun a w => nan_int a w
  refine cps fun Q hQ => ?_
  rcases Nat.lt_trichotomy a b with g | g | g
  · rw [cmpN_lt g] at hQ
    go_enter Tryd.func40, Tryd.ntmps40
    go_wp2_with (go_at_call 51; refine (k _ _).mono ?_; rintro e w' ⟨rfl, hw⟩; rw [hw]; clear hw w')
    exact hQ.out _ _ ⟨rfl, rfl⟩
  · subst g
    rw [cmpN_eq] at hQ
    go_enter Tryd.func40, Tryd.ntmps40
    go_wp2_with (go_at_call 51; refine (k _ _).mono ?_; rintro e w' ⟨rfl, hw⟩; rw [hw]; clear hw w')
    exact hQ.out _ _ ⟨rfl, rfl⟩
  · rw [cmpN_gt g] at hQ
    go_enter Tryd.func40, Tryd.ntmps40
    go_wp2_with (go_at_call 51; refine (k _ _).mono ?_; rintro e w' ⟨rfl, hw⟩; rw [hw]; clear hw w')
    exact hQ.out _ _ ⟨rfl, rfl⟩
theorem cmpu64_any (a b : Nat) (w : World) : Calls Tryd.prog 41 #[.int .u64 a, .int .u64 b] w fun e w' => e = .returned (.int .i64 (cmpN a b)) ∧ w' = w := by
  have k := fun a w => nan_u64 a w
  refine cps fun Q hQ => ?_
  rcases Nat.lt_trichotomy a b with g | g | g
  · rw [cmpN_lt g] at hQ
    go_enter Tryd.func41, Tryd.ntmps41
    go_wp2_with (go_at_call 52; refine (k _ _).mono ?_; rintro e w' ⟨rfl, hw⟩; rw [hw]; clear hw w')
    exact hQ.out _ _ ⟨rfl, rfl⟩
  · subst g
    rw [cmpN_eq] at hQ
    go_enter Tryd.func41, Tryd.ntmps41
    go_wp2_with (go_at_call 52; refine (k _ _).mono ?_; rintro e w' ⟨rfl, hw⟩; rw [hw]; clear hw w')
    exact hQ.out _ _ ⟨rfl, rfl⟩
  · rw [cmpN_gt g] at hQ
    go_enter Tryd.func41, Tryd.ntmps41
    go_wp2_with (go_at_call 52; refine (k _ _).mono ?_; rintro e w' ⟨rfl, hw⟩; rw [hw]; clear hw w')
    exact hQ.out _ _ ⟨rfl, rfl⟩

set_option maxHeartbeats 4000000 in
theorem natcmp_any (va vb : Value) (l m : List Nat) (hl : Limbs l) (hm : Limbs m) (hb : l.length ≤ 16777216) (hc : m.length ≤ 16777216) (w : World) (h : RowU w va l) (g : RowU w vb m) :
    Calls Tryd.prog 24 #[va, vb] w fun e w' => e = .returned (.int .i64 (cmpN (uval l) (uval m))) ∧ Below w.heap.size w w' := by
  have hla := lim_le_length l hl
  have hlb := lim_le_length m hm
  have hra' := h
  have hrb' := g
  obtain ⟨aa, ca, rfl, hca, hla1, _⟩ := h
  obtain ⟨ab, cb, rfl, hcb, hlb1, _⟩ := g
  obtain ⟨W1, hW1⟩ : ∃ W1, W1 = ((w.alloc (.cells #[.slice ab m.length cb] 23)).alloc (.cells #[.int .i64 0] 3)).drew := ⟨_, rfl⟩
  have hbel1 : Below w.heap.size w W1 := by rw [hW1]; exact (bmore (bmore (Below.refl _ _) _) _).drew
  obtain ⟨Ma, hMa⟩ : ∃ M, M = (lim (uval l)).length := ⟨_, rfl⟩
  obtain ⟨Mb, hMb⟩ : ∃ M, M = (lim (uval m)).length := ⟨_, rfl⟩
  have hca2 : Calls Tryd.prog 18 #[.slice aa l.length ca] W1 fun e w' => e = .returned (.slice aa Ma Ma) ∧ w' = W1 :=
    (natcut_raw _ l hl W1 (hra'.below hbel1)).mono fun e w' ⟨⟨ao, c, he, h2⟩, h3⟩ => ⟨by injection he with a1 a2 a3; rw [a1, hMa]; exact h2, h3⟩
  have hcb2 : Calls Tryd.prog 18 #[.slice ab m.length cb] W1 fun e w' => e = .returned (.slice ab Mb Mb) ∧ w' = W1 :=
    (natcut_raw _ m hm W1 (hrb'.below hbel1)).mono fun e w' ⟨⟨ao, c, he, h2⟩, h3⟩ => ⟨by injection he with a1 a2 a3; rw [a1, hMb]; exact h2, h3⟩
  have HCA : Hid (Calls _ _ _ _ _) := hca2
  have HCB : Hid (Calls _ _ _ _ _) := hcb2
  have HW1 : Hid (W1 = ((w.alloc (.cells #[.slice ab m.length cb] 23)).alloc (.cells #[.int .i64 0] 3)).drew) := hW1
  have HMA : Hid (Ma = (lim (uval l)).length) := hMa
  have HMB : Hid (Mb = (lim (uval m)).length) := hMb
  rw [HW1.out] at HCA HCB
  clear hca2 hcb2 hW1 hMa hMb
  refine (callsIn_wide (n := 8)).1 ?_
  refine callsIn_of_wp_marks Tryd.func24 rfl trivial ?_ rfl
  simp only [Tryd.ntmps24, List.size_toArray, List.length_cons, List.length_nil, Nat.reduceAdd, Nat.reduceSub, Array.replicate_succ, Array.replicate_zero, List.push_toArray, List.append_toArray, List.nil_append, List.cons_append]
  refine wpIn_wide.2 ?_
  go_wp2
  obtain ⟨W2, hW2⟩ : ∃ W2, W2 = ((w.alloc (.cells #[.slice ab Mb Mb] 23)).alloc (.cells #[.int .i64 0] 3)).drew := ⟨_, rfl⟩
  have HW2 : Hid (W2 = ((w.alloc (.cells #[.slice ab Mb Mb] 23)).alloc (.cells #[.int .i64 0] 3)).drew) := hW2
  clear hW2
  refine wp_mono (Q := onlyNormal (fun a w' => a = { tmps := #[Value.slice aa Ma Ma, Value.slice ab m.length cb, undef, Value.pointer (some { block := w.heap.size, off := 0 }), Value.pointer (some { block := w.heap.size + 1, off := 0 }), undef, undef, Value.slice aa l.length ca, Value.slice aa Ma Ma, Value.slice ab m.length cb, Value.slice ab Mb Mb, undef, undef, undef, undef, undef, undef, undef, undef, undef, undef, undef, undef, undef, undef, undef, undef, undef, undef, undef, undef, undef, undef, undef, undef, undef, undef], defers := [] } ∧ w' = W2)) ?_ ?_
  · refine wpC_region (C := fun _ => True) (by kernel_rfl) ?_
    refine wpC_take 0 (v := ?_) rfl (by kernel_rfl) (fun _ _ _ h => h) (by kernel_rfl) ?_ ?_; rotate_left; · (intro wC hC; obtain _ := hC; go_simp <;> with_reducible rfl)
    refine wpC_two 1 2 rfl rfl (by kernel_rfl) (by kernel_rfl) (by kernel_rfl) trivial (fun K hK => ?_) (fun K hK => ?_)
    · skip
      go_simp
      go_wp2_with (go_at_call 18; refine HCA.out.mono ?_; rintro e w' ⟨rfl, hw⟩; rw [hw]; clear hw w')
      try (refine hK _ _ ?_; clear hK K)
      refine wpC_step 2 rfl (by kernel_rfl) (by kernel_rfl) trivial (fun K hK => ?_)
      go_simp
      try (refine hK _ _ ?_; clear hK K)
      refine wpC_step 3 rfl (by kernel_rfl) (by kernel_rfl) trivial (fun K hK => ?_)
      go_simp
      go_wp2_with (go_at_call 18; refine HCB.out.mono ?_; rintro e w' ⟨rfl, hw⟩; rw [hw]; clear hw w')
      try (refine hK _ _ ?_; clear hK K)
      refine wpC_take 4 (v := ?_) rfl (by kernel_rfl) (fun _ _ _ h => h) (by kernel_rfl) ?_ ?_; rotate_left; · (intro wC hC; obtain _ := hC; go_simp <;> with_reducible rfl)
      refine wpC_step 5 rfl (by kernel_rfl) (by kernel_rfl) trivial (fun K hK => ?_)
      go_simp
      try (refine hK _ _ ?_; clear hK K)
      refine wpC_done (by kernel_rfl) trivial ⟨rfl, by rw [HW2.out]⟩
    · skip
      go_simp
      try (refine hK _ _ ?_; clear hK K)
      refine wpC_step 1 rfl (by kernel_rfl) (by kernel_rfl) trivial (fun K hK => ?_)
      go_simp
      go_wp2_with (go_at_call 18; refine HCA.out.mono ?_; rintro e w' ⟨rfl, hw⟩; rw [hw]; clear hw w')
      try (refine hK _ _ ?_; clear hK K)
      refine wpC_step 3 rfl (by kernel_rfl) (by kernel_rfl) trivial (fun K hK => ?_)
      go_simp
      go_wp2_with (go_at_call 18; refine HCB.out.mono ?_; rintro e w' ⟨rfl, hw⟩; rw [hw]; clear hw w')
      try (refine hK _ _ ?_; clear hK K)
      refine wpC_take 4 (v := ?_) rfl (by kernel_rfl) (fun _ _ _ h => h) (by kernel_rfl) ?_ ?_; rotate_left; · (intro wC hC; obtain _ := hC; go_simp <;> with_reducible rfl)
      refine wpC_step 5 rfl (by kernel_rfl) (by kernel_rfl) trivial (fun K hK => ?_)
      go_simp
      try (refine hK _ _ ?_; clear hK K)
      refine wpC_done (by kernel_rfl) trivial ⟨rfl, by rw [HW2.out]⟩
  rintro e a2 w2 hq
  cases e with
  | normal =>
    obtain ⟨rfl, hw2⟩ := hq
    rw [hw2]
    clear hw2 w2
    have hsz : W2.heap.size = w.heap.size + 2 := by rw [HW2.out]; simp
    have bB : Boxed W2 w.heap.size 23 (.slice ab Mb Mb) := by rw [HW2.out]; exact show Boxed _ _ _ _ from (Boxed.new w _ _).alloc _
    have bR : Boxed W2 (w.heap.size + 1) 3 (.int .i64 0) := by
      rw [HW2.out]; have := Boxed.new (w.alloc (.cells #[.slice ab Mb Mb] 23)) 3 (.int .i64 0)
      rw [World.size_alloc] at this; exact this
    have hbel2 : Below w.heap.size w W2 := by rw [HW2.out]; exact (bmore (bmore (Below.refl _ _) _) _).drew
    have ha2 := hra'.take _ (lim_le_length l hl)
    rw [lim_take l hl, ← HMA.out] at ha2
    have hb2 := hrb'.take _ (lim_le_length m hm)
    rw [lim_take m hm, ← HMB.out] at hb2
    have HRA : Hid (RowU w (.slice aa Ma Ma) (lim (uval l))) := ha2
    have HRB : Hid (RowU w (.slice ab Mb Mb) (lim (uval m))) := hb2
    clear ha2 hb2 hra' hrb' hla1 hlb1 HCA HCB HW2 hbel1 HW1 W1
    have cR := bR.cell
    have fR := bR.frozen
    have cB := bB.cell
    have hMa : Ma ≤ 16777216 := by have := HMA.out; omega
    have hMb : Mb ≤ 16777216 := by have := HMB.out; omega
    by_cases hM : Ma = Mb
    · subst hM
      obtain ⟨n, hn⟩ : ∃ n, n = Ma := ⟨_, rfl⟩
      rw [← hn] at HMA HMB HRA HRB bB cB hMa ⊢
      clear hn
      have hn1 : (((n : Nat) : Int) == (n : Int)) = true := by simp
      have kmk := fun w => bwd_make (.slice aa n n) w rfl aa n n rfl
      go_wp2_with (go_at_call 29; refine (kmk _).mono ?_; rintro e w' ⟨rfl, hw⟩; rw [hw]; clear hw w')
      obtain ⟨W0, hW0⟩ : ∃ W0, W0 = W2.alloc (.cells #[.slice aa n n] 23) := ⟨_, rfl⟩
      rw [← hW0]
      have hsz0 : W0.heap.size = w.heap.size + 3 := by rw [hW0]; simp [hsz]
      have b0 : Boxed W0 w.heap.size 23 (.slice ab n n) := by rw [hW0]; exact bB.alloc _
      have b1 : Boxed W0 (w.heap.size + 1) 3 (.int .i64 0) := by rw [hW0]; exact bR.alloc _
      have b2 : Boxed W0 (w.heap.size + 2) 23 (.slice aa n n) := by rw [hW0, ← hsz]; exact Boxed.new W2 _ _
      have hbel0 : Below w.heap.size w W0 := by rw [hW0]; exact hbel2.alloc (by omega) _
      clear hW0 bB bR hbel2 cR fR cB kmk hn1
      clear hsz
      refine (wpIn_wide (n := 8)).1 ?_
      refine wpIn_bwd (w.heap.size + 2) n n aa (fun k => (lim (uval l)).getD (n - 1 - k) 0) rfl (by omega) (by omega) (Nat.le_refl _) rfl
        (fun k W => k ≤ n ∧ (∀ j, n - k ≤ j → (lim (uval l)).getD j 0 = (lim (uval m)).getD j 0) ∧ Boxed W w.heap.size 23 (.slice ab n n) ∧ Boxed W (w.heap.size + 1) 3 (.int .i64 0) ∧ Boxed W (w.heap.size + 2) 23 (.slice aa n n) ∧ Below w.heap.size w W)
        (fun W => Boxed W (w.heap.size + 1) 3 (.int .i64 (cmpN (uval l) (uval m))) ∧ Below w.heap.size w W) ?own ?ownx ?start ?box ?cell
        (fun k0 => { tmps := #[Value.slice aa n n, Value.slice ab m.length cb, undef, Value.pointer (some { block := w.heap.size, off := 0 }), Value.pointer (some { block := w.heap.size + 1, off := 0 }), Value.int .i64 (n - 1 - k0 : Nat), Value.int .u64 ((lim (uval l)).getD (n - 1 - k0) 0 : Nat), Value.slice aa l.length ca, Value.slice aa n n, Value.slice ab m.length cb, Value.slice ab n n, Value.slice aa n n, Value.int .i64 n, Value.slice ab n n, Value.int .i64 n, Value.bool false, undef, undef, undef, undef, undef, Value.slice aa n n, Value.func (Fn.func 44) #[] #[Value.pointer (some { block := w.heap.size + 2, off := 0 })], Value.int .i64 (n - 1 - k0 : Nat), Value.int .u64 ((lim (uval l)).getD (n - 1 - k0) 0 : Nat), undef, undef, undef, undef, undef, undef, undef, undef, undef, undef, undef, undef], defers := [] }) ?assign ?body ?done ?stop
      case own =>
        rintro k0 X Y row ⟨hk, he, h0, h1, h2, hgr⟩ hgw hrow
        have hnc : ∀ (b : Nat) (cs : Array Value) (t : TypeId) (fz : Nat × Nat), X.heap[b]? = some (.cells cs t fz) → row ≠ some b := fun b cs t fz hb e => by
          obtain ⟨_, o, ho, hc⟩ := hrow b e
          rw [hb] at ho; cases ho; cases hc
        exact ⟨hk, he, h0.kept hgw (fun e => hnc _ _ _ _ h0 e.symm), h1.kept hgw (fun e => hnc _ _ _ _ h1 e.symm), h2.kept hgw (fun e => hnc _ _ _ _ h2 e.symm),
          hgr.trans ((Below.refl _ X).grown hgw hgr.size (fun j hj => by have := (hrow j hj).1; omega))⟩
      case ownx =>
        rintro _ X Y row ⟨h1, hgr⟩ hgw hrow
        have hnc : ∀ (b : Nat) (cs : Array Value) (t : TypeId) (fz : Nat × Nat), X.heap[b]? = some (.cells cs t fz) → row ≠ some b := fun b cs t fz hb e => by
          obtain ⟨_, o, ho, hc⟩ := hrow b e
          rw [hb] at ho; cases ho; cases hc
        exact ⟨h1.kept hgw (fun e => hnc _ _ _ _ h1 e.symm), hgr.trans ((Below.refl _ X).grown hgw hgr.size (fun j hj => by have := (hrow j hj).1; omega))⟩
      case start =>
        refine ⟨Nat.zero_le _, fun j hj => ?_, b0, b1, b2, hbel0⟩
        have h1 := HMA.out
        have h2 := HMB.out
        rw [List.getD_eq_getElem?_getD, List.getD_eq_getElem?_getD, List.getElem?_eq_none (by omega), List.getElem?_eq_none (by omega)]
      case box => rintro k0 W ⟨hk, he, h0, h1, h2, hgr⟩; exact h2.cell
      case cell =>
        rintro k0 W ⟨hk, he, h0, h1, h2, hgr⟩ hlt
        obtain ⟨b, off, c, e1, _, _, hbl, hcs⟩ := HRA.out.some' HMA.out.symm (by omega)
        injection e1 with q1 q2 q3
        exact ⟨b, off, q1, (hgr.cell (p := ⟨b, off + (n - 1 - k0), none⟩) hbl).trans (hcs _ (by omega))⟩
      case assign =>
        intro l k0 W K hK
        gi_wp2
        exact hK
      case body =>
        rintro l' k0 W ⟨hk, he, h0, h1, h2, hgr⟩ hlt
        obtain ⟨b, off, c, e1, _, _, hbl, hcs⟩ := HRB.out.some' HMB.out.symm (by omega)
        injection e1 with q1 q2 q3
        subst q1 q3
        obtain ⟨i, hi⟩ : ∃ i, i = n - 1 - k0 := ⟨_, rfl⟩
        rw [← hi]
        have hin : i < n := by omega
        have hcell := (hgr.cell (p := ⟨b, off + i, none⟩) hbl).trans (hcs i hin)
        obtain ⟨x, HX⟩ : ∃ x, Hid ((lim (uval l)).getD i 0 = x) := ⟨_, rfl⟩
        obtain ⟨y, HY⟩ : ∃ x, Hid ((lim (uval m)).getD i 0 = x) := ⟨_, rfl⟩
        rw [HX.out]
        rw [HY.out] at hcell
        have c0 := h0.cell
        have c1 := h1.cell
        have f1 := h1.frozen
        have kc : ∀ w, CallsIn (Fence.wide.inRound l') (8 - 1 - 1 - 1) Tryd.prog 41 #[.int .u64 x, .int .u64 y] w fun e w' => e = .returned (.int .i64 (cmpN x y)) ∧ w' = w := fun w =>
          CallsIn.inRound l' (callsIn_wide.2 (cmpu64_any x y w))
        have HI : Hid (i = n - 1 - k0) := hi
        have HEQ : Hid (∀ j, n - k0 ≤ j → (lim (uval l)).getD j 0 = (lim (uval m)).getD j 0) := he
        have H0 : Hid (Boxed W w.heap.size 23 (.slice (some ⟨b, off, none⟩) n n)) := h0
        have H1 : Hid (Boxed W (w.heap.size + 1) 3 (.int .i64 0)) := h1
        have H2 : Hid (Boxed W (w.heap.size + 2) 23 (.slice aa n n)) := h2
        have HG : Hid (Below w.heap.size w W) := hgr
        clear hi he h0 h1 h2 hgr hcs b0 b1 b2 hbel0
        by_cases hxy : x = y
        · subst hxy
          have hd : (((x : Nat) : Int) == (x : Int)) = true := by simp
          gi_wp2
          refine ⟨KeepsFrom.refl _ _, by omega, fun j hj => ?_, H0.out, H1.out, H2.out, HG.out⟩
          by_cases g : j = i
          · subst g; exact HX.out.trans HY.out.symm
          · exact HEQ.out j (by have := HI.out; omega)
        · have hd : ((x : Int) == (y : Int)) = false := by simp; omega
          have hd2 : ¬ ((x : Int) = (y : Int)) := by omega
          have hcm := cmp_limbs (lim (uval l)) (lim (uval m)) (lim_limbs _) (lim_limbs _) (by rw [← HMA.out, ← HMB.out]) i (by rw [← HMA.out]; exact hin) (fun j hj => HEQ.out j (by have := HI.out; omega)) (by rw [HX.out, HY.out]; exact hxy)
          rw [uval_lim, uval_lim, HX.out, HY.out] at hcm
          have HCM : Hid (cmpN (uval l) (uval m) = cmpN x y) := hcm
          clear hcm hxy
          gi_wp2_with (refine ⟨trivial, ?_⟩; gi_at_call 41; refine (kc _).mono ?_; rintro e w' ⟨rfl, hw⟩; rw [hw]; clear hw w')
          refine ⟨(KeepsOthers.setCell W ⟨w.heap.size + 1, 0, none⟩ (.int .i64 (cmpN x y))).from _, by rw [HCM.out]; exact H1.out.set _, HG.out.setCell (p := ⟨w.heap.size + 1, 0, none⟩) (by show w.heap.size ≤ w.heap.size + 1; omega) _⟩
      case done =>
        rintro W ⟨hk, he, h0, h1, h2, hgr⟩ hD hDs
        have heq : uval l = uval m := cmp_same _ _ (by rw [← HMA.out, ← HMB.out]) (fun j hj => he j (by omega))
        have c1 := h1.cell
        have f1 := h1.frozen
        have HD : Hid (W.heap[W0.heap.size]? = some (.deferred (some []))) := hD
        have H1 : Hid (Boxed W (w.heap.size + 1) 3 (.int .i64 0)) := h1
        have HG : Hid (Below w.heap.size w W) := hgr
        have HEQ : Hid (uval l = uval m) := heq
        have HSZ : Hid (W0.heap.size = w.heap.size + 3) := hsz0
        clear he h0 h1 h2 hgr hD heq b0 b1 b2 hbel0 hsz0
        go_wp2
        have hK' := (KeepsOthers.setCell W ⟨w.heap.size + 1, 0, none⟩ (.int .i64 0)).same W0.heap.size _ HD.out rfl
        refine ⟨by simp, .inl ⟨_, _, rfl, run_takeDeferred hK', ?_⟩⟩
        have hc5 := ((H1.out.set (.int .i64 0)).kept (grownBy_putObj' _ W0.heap.size (.deferred none)) (by have := HSZ.out; simp; omega)).cell
        refine ⟨.int .i64 0, ?_, by rw [HEQ.out, cmpN_eq], (HG.out.setCell (p := ⟨w.heap.size + 1, 0, none⟩) (by show w.heap.size ≤ w.heap.size + 1; omega) _).grown (grownBy_putObj' _ W0.heap.size (.deferred none)) (by have := HG.out.size; have := (KeepsOthers.setCell W ⟨w.heap.size + 1, 0, none⟩ (.int .i64 0)).size; omega) (fun j hj => by have := Option.some.inj hj; have := HSZ.out; omega)⟩
        simp [results, Tryd.f24, go_sem, hc5]
      case stop =>
        rintro W ⟨h1, hgr⟩ hD
        have HD : Hid (W.heap[W0.heap.size]? = some (.deferred (some []))) := hD
        have H1 : Hid (Boxed W (w.heap.size + 1) 3 (.int .i64 (cmpN (uval l) (uval m)))) := h1
        have HG : Hid (Below w.heap.size w W) := hgr
        have HSZ : Hid (W0.heap.size = w.heap.size + 3) := hsz0
        clear h1 hgr hD b0 b1 b2 hbel0 hsz0
        gi_wp2
        refine ⟨by simp, .inl ⟨_, _, rfl, run_takeDeferred HD.out, ?_⟩⟩
        have hc5 := (H1.out.kept (grownBy_putObj' _ W0.heap.size (.deferred none)) (by have := HSZ.out; simp; omega)).cell
        refine ⟨.int .i64 (cmpN (uval l) (uval m)), ?_, rfl, HG.out.grown (grownBy_putObj' _ W0.heap.size (.deferred none)) (HG.out.size) (fun j hj => by have := Option.some.inj hj; have := HSZ.out; omega)⟩
        simp [results, Tryd.f24, go_sem, hc5]
    · have e := cmp_length (uval l) (uval m) (fun h => hM (by rw [HMA.out, HMB.out, h]))
      rw [← HMA.out, ← HMB.out] at e
      have hd : ((Ma : Int) == (Mb : Int)) = false := by simp; omega
      have hd2 : ¬ ((Ma : Int) = (Mb : Int)) := by omega
      have kc := fun w => cmpint_any Ma Mb w
      have HE : Hid (cmpN (uval l) (uval m) = cmpN Ma Mb) := e
      clear e bR
      go_wp2_with (go_at_call 40; refine (kc _).mono ?_; rintro e w' ⟨rfl, hw⟩; rw [hw]; clear hw w')
      refine ⟨.int .i64 (cmpN Ma Mb), ?_, by rw [HE.out], hbel2.setCell (p := ⟨w.heap.size + 1, 0, none⟩) (by show w.heap.size ≤ w.heap.size + 1; omega) _⟩
      have hc5 := World.cell?_setCell_same' W2 ⟨w.heap.size + 1, 0, none⟩ (.int .i64 (cmpN Ma Mb)) (by rw [cR]; rfl)
      simp [results, Tryd.f24, go_sem, hc5]
  | _ => exact hq.elim
end Go.Proofs.YtckmmdmimlhmoaaDoor
