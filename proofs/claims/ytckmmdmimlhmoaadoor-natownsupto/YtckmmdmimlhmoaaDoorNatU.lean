import Derived.Test.YtckmmdmimlhmoaaDoorNatT
import Derived.Test.YtckmmdmimlhmoaaDoorBwd
import Derived.Test.YtckmmdmimlhmoaaDoorRegI
namespace Go.Proofs.YtckmmdmimlhmoaaDoor
open Go.ChangeShapes Go.WideShapes Go.ChangeAt Go.RowKit Go.Shelf
set_option linter.unusedVariables false
set_option linter.unusedSimpArgs false
set_option maxRecDepth 100000
attribute [local go_sem] Oper.semAt_some

/-! ### division by one limb, where the number stands -/
set_option maxHeartbeats 4000000 in
theorem natshort_any (g c d : Nat) (A R : List Nat) (hA : Limbs A) (h0 : 0 < d) (hd : d < 18446744073709551616) (hc : c ≤ 9223372036854775807) (hcl : A.length ≤ c) (hn : A.length ≤ 1073741824) (w : World) (hw : Blk w g (A ++ R)) :
    Calls Tryd.prog 32 #[.slice (some ⟨g, 0, none⟩) A.length c, .int .u64 d] w fun e w' => e = .returned (.int .u64 (uval A % d : Nat)) ∧ Blk w' g (fix A.length (uval A / d) ++ R) ∧ w.grownBy w' (some g) := by
  have hg := hw.lt
  have kmk := fun w => bwd_make (.slice (some ⟨g, 0, none⟩) A.length c) w rfl (some ⟨g, 0, none⟩) A.length c rfl
  have k64 := fun u x w h1 h2 => div64_any u x d h1 h2 (by omega) w
  refine (callsIn_wide (n := 8)).1 ?_
  refine callsIn_of_wp_marks Tryd.func32 rfl trivial ?_ rfl
  simp only [Tryd.ntmps32, List.size_toArray, List.length_cons, List.length_nil, Nat.reduceAdd, Nat.reduceSub, Array.replicate_succ, Array.replicate_zero, List.push_toArray, List.append_toArray, List.nil_append, List.cons_append]
  refine wpIn_wide.2 ?_
  go_wp2_with (go_at_call 29; refine (kmk _).mono ?_; rintro e w' ⟨rfl, hw⟩; rw [hw]; clear hw w')
  obtain ⟨W0, hW0⟩ : ∃ W0, W0 = ((((w.alloc (Obj.cells #[Value.slice (some { block := g, off := 0 }) A.length c] 23)).alloc (Obj.cells #[Value.int IntKind.u64 ↑d] 42)).alloc (Obj.cells #[Value.int IntKind.u64 0] 42)).alloc (Obj.cells #[Value.slice (some { block := g, off := 0 }) A.length c] 23)) := ⟨_, rfl⟩
  rw [← hW0]
  have hsz : W0.heap.size = w.heap.size + 4 := by rw [hW0]; simp
  have b0 : Boxed W0 w.heap.size 23 (.slice (some ⟨g, 0, none⟩) A.length c) := by
    rw [hW0]; exact (((Boxed.new w _ _).alloc _).alloc _).alloc _
  have b1 : Boxed W0 (w.heap.size + 1) 42 (.int .u64 d) := by
    rw [hW0]; have := Boxed.new (w.alloc (Obj.cells #[Value.slice (some { block := g, off := 0 }) A.length c] 23)) 42 (.int .u64 d)
    rw [World.size_alloc] at this; exact (this.alloc _).alloc _
  have b2 : Boxed W0 (w.heap.size + 1 + 1) 42 (.int .u64 0) := by
    rw [hW0]; have := Boxed.new ((w.alloc (Obj.cells #[Value.slice (some { block := g, off := 0 }) A.length c] 23)).alloc (Obj.cells #[Value.int IntKind.u64 ↑d] 42)) 42 (.int .u64 0)
    rw [World.size_alloc, World.size_alloc] at this; exact this.alloc _
  have b3 : Boxed W0 (w.heap.size + 1 + 1 + 1) 23 (.slice (some ⟨g, 0, none⟩) A.length c) := by
    rw [hW0]; have := Boxed.new (((w.alloc (Obj.cells #[Value.slice (some { block := g, off := 0 }) A.length c] 23)).alloc (Obj.cells #[Value.int IntKind.u64 ↑d] 42)).alloc (Obj.cells #[Value.int IntKind.u64 0] 42)) 23 (.slice (some ⟨g, 0, none⟩) A.length c)
    rw [World.size_alloc, World.size_alloc, World.size_alloc] at this; exact this
  have hg0 : w.grownBy W0 (some g) := by
    rw [hW0]
    exact grown_trans (grown_trans (grown_trans (World.grownBy_alloc _ _ _) (World.grownBy_alloc _ _ _)) (World.grownBy_alloc _ _ _)) (World.grownBy_alloc _ _ _)
  have hk0 : Blk W0 g (A ++ R) := by
    rw [hW0]
    exact (((hw.kept (World.grownBy_alloc _ _ none) (by simp)).kept (World.grownBy_alloc _ _ none) (by simp)).kept (World.grownBy_alloc _ _ none) (by simp)).kept (World.grownBy_alloc _ _ none) (by simp)
  clear hW0
  have h0' := h0
  have HK0 : Hid (Blk W0 g (A ++ R)) := hk0
  clear hk0 hw
  refine (wpIn_wide (n := 8)).1 ?_
  refine wpIn_bwd (w.heap.size + 1 + 1 + 1) A.length c (some ⟨g, 0, none⟩) (fun k => A.getD (A.length - 1 - k) 0) rfl (by omega) hc hcl rfl
    (fun k W => ∃ (L : List Nat) (r : Nat), k ≤ A.length ∧ CutAt A d (A.length - k) r L ∧ Blk W g (L ++ R) ∧ Boxed W w.heap.size 23 (.slice (some ⟨g, 0, none⟩) A.length c) ∧ Boxed W (w.heap.size + 1) 42 (.int .u64 d) ∧ Boxed W (w.heap.size + 1 + 1) 42 (.int .u64 r) ∧ Boxed W (w.heap.size + 1 + 1 + 1) 23 (.slice (some ⟨g, 0, none⟩) A.length c) ∧ w.grownBy W (some g))
    (fun _ => False) ?own (fun _ _ _ _ h _ _ => h) ?start ?box ?cell
    (fun k => { tmps := #[Value.slice (some { block := g, off := 0 }) A.length c, Value.int IntKind.u64 ↑d, Value.pointer (some { block := w.heap.size, off := 0 }), Value.pointer (some { block := w.heap.size + 1, off := 0 }), Value.int IntKind.u64 0,
          Value.pointer (some { block := w.heap.size + 1 + 1, off := 0 }), Value.int .i64 (A.length - 1 - k : Nat), Value.int .u64 (A.getD (A.length - 1 - k) 0 : Nat),
          Value.slice (some { block := g, off := 0 }) A.length c, Value.func (Fn.func 44) #[] #[Value.pointer (some { block := w.heap.size + 1 + 1 + 1, off := 0 })], Value.int .i64 (A.length - 1 - k : Nat), Value.int .u64 (A.getD (A.length - 1 - k) 0 : Nat),
          undef, undef, undef, undef, undef, undef, undef, undef, undef, undef, undef], defers := [] }) ?assign ?body ?done (fun _ h => h.elim)
  case own =>
    rintro k X Y row ⟨L, r, hk, hst, hb, h0, h1, h2, h3, hgr⟩ hgw hrow
    have hnc : ∀ (b : Nat) (cs : Array Value) (t : TypeId) (fz : Nat × Nat), X.heap[b]? = some (.cells cs t fz) → row ≠ some b := fun b cs t fz hb e => by
      obtain ⟨_, o, ho, hc⟩ := hrow b e
      rw [hb] at ho; cases ho; cases hc
    have hkb : row ≠ some g := by obtain ⟨tl, hb⟩ := hb; exact hnc _ _ _ _ hb
    exact ⟨L, r, hk, hst, hb.kept hgw hkb, h0.kept hgw (fun e => hnc _ _ _ _ h0 e.symm), h1.kept hgw (fun e => hnc _ _ _ _ h1 e.symm), h2.kept hgw (fun e => hnc _ _ _ _ h2 e.symm), h3.kept hgw (fun e => hnc _ _ _ _ h3 e.symm),
      hgr.andThen hgw (fun j hj => .inl (by have := (hrow j hj).1; omega))⟩
  case start => exact ⟨A, 0, Nat.zero_le _, CutAt.start d hA, HK0.out, b0, b1, b2, b3, hg0⟩
  case box => rintro k W ⟨L, r, hk, hst, hb, h0, h1, h2, h3, hgr⟩; exact h3.cell
  case cell =>
    rintro k W ⟨L, r, hk, hst, hb, h0, h1, h2, h3, hgr⟩ hlt
    refine ⟨g, 0, rfl, ?_⟩
    have hl := hst.len
    have := hb.cell (A.length - 1 - k) (by simp; omega)
    rw [Nat.zero_add, this, List.getD_eq_getElem?_getD, List.getElem?_append_left (by omega), ← List.getD_eq_getElem?_getD, hst.low _ (by omega)]
  case assign =>
    intro l k W K hK
    gi_wp2
    exact hK
  case body =>
    rintro l k W ⟨L, r, hk, hst, hb, h0, h1, h2, h3, hgr⟩ hlt
    obtain ⟨i, hi⟩ : ∃ i, i = A.length - 1 - k := ⟨_, rfl⟩
    rw [← hi]
    rw [show A.length - k = i + 1 by omega] at hst
    have hin : i < A.length := by omega
    have hxl := limbs_getD hA i
    have hL := hst.len
    have hrd : r < d := by rw [hst.left]; exact Nat.mod_lt _ h0'
    have hcell := hb.cell i (by simp; omega)
    rw [List.getD_eq_getElem?_getD, List.getElem?_append_left (by omega), ← List.getD_eq_getElem?_getD, hst.low _ (by omega)] at hcell
    have hfz := hb.frozen i
    obtain ⟨x, HX⟩ : ∃ x, Hid (A.getD i 0 = x) := ⟨_, rfl⟩
    rw [HX.out] at hxl hcell ⊢
    obtain ⟨q, hq⟩ : ∃ q, q = (r * 18446744073709551616 + x) / d := ⟨_, rfl⟩
    obtain ⟨r', hr'⟩ : ∃ q, q = (r * 18446744073709551616 + x) % d := ⟨_, rfl⟩
    have k2 : ∀ w, CallsIn (Fence.wide.inRound l) (8 - 1 - 1 - 1) Tryd.prog 46 #[.int .u64 r, .int .u64 x, .int .u64 d] w fun e w' => e = .returned (.tuple #[.int .u64 q, .int .u64 r']) ∧ ∃ n, w' = w.drewN n := fun w =>
      CallsIn.inRound l (callsIn_wide.2 ((k64 r x w hrd (by omega)).mono fun e w' ⟨⟨q1, r1, he, e1, e2⟩, hw⟩ => ⟨by rw [he, e1, e2, hq, hr'], hw⟩))
    have hstep := hst.step hA h0' HX.out.symm hq hr'
    have HST : Hid (CutAt A d i r' (L.set i q)) := hstep
    have hne0 : w.heap.size ≠ g := by omega
    have hne1 : w.heap.size + 1 ≠ g := by omega
    have hne2 : w.heap.size + 1 + 1 ≠ g := by omega
    have hne3 : w.heap.size + 1 + 1 + 1 ≠ g := by omega
    have c0 := h0.cell
    have c1 := h1.cell
    have c2 := h2.cell
    have f2 := h2.frozen
    have HI : Hid (i = A.length - 1 - k) := hi
    have HB : Hid (Blk W g (L ++ R)) := hb
    have H0 : Hid (Boxed W w.heap.size 23 (.slice (some ⟨g, 0, none⟩) A.length c)) := h0
    have H1 : Hid (Boxed W (w.heap.size + 1) 42 (.int .u64 d)) := h1
    have H2 : Hid (Boxed W (w.heap.size + 1 + 1) 42 (.int .u64 r)) := h2
    have H3 : Hid (Boxed W (w.heap.size + 1 + 1 + 1) 23 (.slice (some ⟨g, 0, none⟩) A.length c)) := h3
    clear hi hq hr' hstep hst k64 kmk h0 h1 h2 h3 hb hL hrd hxl
    gi_wp2
    refine wpI_region (C := fun W' => W'.cell? ⟨w.heap.size, 0, none⟩ = some (.slice (some ⟨g, 0, none⟩) A.length c) ∧ W'.cell? ⟨w.heap.size + 1, 0, none⟩ = some (.int .u64 d)) (by kernel_rfl) ?_
    refine wpI_take (fun _ => trivial) (by kernel_rfl) 0 (v := ?_) rfl (by kernel_rfl) (fun _ _ _ h => h) (by kernel_rfl) ?_ ?_; rotate_left; · (intro wC hC; obtain ⟨hc0, hc1⟩ := hC; go_simp <;> with_reducible rfl)
    refine wpI_take (fun _ => trivial) (by kernel_rfl) 1 (v := ?_) rfl (by kernel_rfl) (fun _ _ _ h => h) (by kernel_rfl) ?_ ?_; rotate_left; · (intro wC hC; obtain ⟨hc0, hc1⟩ := hC; go_simp <;> with_reducible rfl)
    refine wpI_take (fun _ => trivial) (by kernel_rfl) 3 (v := ?_) rfl (by kernel_rfl) (fun _ _ _ h => h) (by kernel_rfl) ?_ ?_; rotate_left; · (intro wC hC; obtain ⟨hc0, hc1⟩ := hC; go_simp <;> with_reducible rfl)
    refine wpI_take (fun _ => trivial) (by kernel_rfl) 4 (v := ?_) rfl (by kernel_rfl) (fun _ _ _ h => h) (by kernel_rfl) ?_ ?_; rotate_left; · (intro wC hC; obtain ⟨hc0, hc1⟩ := hC; go_simp <;> with_reducible rfl)
    refine wpI_step 2 rfl (by kernel_rfl) (by kernel_rfl) ⟨c0, c1⟩ (fun K hK => ?_)
    gi_wp2
    try (refine hK _ _ ?_; clear hK K)
    refine wpI_step 5 rfl (by kernel_rfl) (by kernel_rfl) ⟨c0, c1⟩ (fun K hK => ?_)
    gi_wp2_with (refine ⟨trivial, ?_⟩; gi_at_call 46; refine (k2 _).mono ?_; rintro e w' ⟨rfl, m, rfl⟩)
    try (refine hK _ _ ?_; clear hK K)
    refine wpI_take (fun _ => trivial) (by kernel_rfl) 6 (v := ?_) rfl (by kernel_rfl) (fun _ _ _ h => h) (by kernel_rfl) ?_ ?_; rotate_left; · (intro wC hC; obtain ⟨hc0, hc1⟩ := hC; go_simp <;> with_reducible rfl)
    refine wpI_take (fun _ => trivial) (by kernel_rfl) 7 (v := ?_) rfl (by kernel_rfl) (fun _ _ _ h => h) (by kernel_rfl) ?_ ?_; rotate_left; · (intro wC hC; obtain ⟨hc0, hc1⟩ := hC; go_simp <;> with_reducible rfl)
    refine wpI_take (fun _ => trivial) (by kernel_rfl) 8 (v := ?_) rfl (by kernel_rfl) (fun _ _ _ h => h) (by kernel_rfl) ?_ ?_; rotate_left; · (intro wC hC; obtain ⟨hc0, hc1⟩ := hC; go_simp <;> with_reducible rfl)
    refine wpI_take (fun _ => trivial) (by kernel_rfl) 9 (v := ?_) rfl (by kernel_rfl) (fun _ _ _ h => h) (by kernel_rfl) ?_ ?_; rotate_left; · (intro wC hC; obtain ⟨hc0, hc1⟩ := hC; go_simp <;> with_reducible rfl)
    refine wpI_step 10 rfl (by kernel_rfl) (by kernel_rfl) ⟨c0, c1⟩ (fun K hK => ?_)
    gi_wp2
    try (refine hK _ _ ?_; clear hK K)
    have p0 : ∀ n v, Boxed ((W.drewN n).setCell ⟨g, i, none⟩ v) w.heap.size 23 (.slice (some ⟨g, 0, none⟩) A.length c) := fun n v => (show Boxed (W.drewN n) _ _ _ from H0.out).kept (grown_set _ _ _ _) (fun e => hne0 (Option.some.inj e))
    have p1 : ∀ n v, Boxed ((W.drewN n).setCell ⟨g, i, none⟩ v) (w.heap.size + 1) 42 (.int .u64 d) := fun n v => (show Boxed (W.drewN n) _ _ _ from H1.out).kept (grown_set _ _ _ _) (fun e => hne1 (Option.some.inj e))
    have p2 : ∀ n v, Boxed ((W.drewN n).setCell ⟨g, i, none⟩ v) (w.heap.size + 1 + 1) 42 (.int .u64 r) := fun n v => (show Boxed (W.drewN n) _ _ _ from H2.out).kept (grown_set _ _ _ _) (fun e => hne2 (Option.some.inj e))
    have p3 : ∀ n v, Boxed ((W.drewN n).setCell ⟨g, i, none⟩ v) (w.heap.size + 1 + 1 + 1) 23 (.slice (some ⟨g, 0, none⟩) A.length c) := fun n v => (show Boxed (W.drewN n) _ _ _ from H3.out).kept (grown_set _ _ _ _) (fun e => hne3 (Option.some.inj e))
    have pc2 := (p2 (1 + m) (.int .u64 q)).cell
    have pf2 := (p2 (1 + m) (.int .u64 q)).frozen
    have P0 : Hid (∀ n v, Boxed ((W.drewN n).setCell ⟨g, i, none⟩ v) w.heap.size 23 (.slice (some ⟨g, 0, none⟩) A.length c)) := p0
    have P1 : Hid (∀ n v, Boxed ((W.drewN n).setCell ⟨g, i, none⟩ v) (w.heap.size + 1) 42 (.int .u64 d)) := p1
    have P2 : Hid (∀ n v, Boxed ((W.drewN n).setCell ⟨g, i, none⟩ v) (w.heap.size + 1 + 1) 42 (.int .u64 r)) := p2
    have P3 : Hid (∀ n v, Boxed ((W.drewN n).setCell ⟨g, i, none⟩ v) (w.heap.size + 1 + 1 + 1) 23 (.slice (some ⟨g, 0, none⟩) A.length c)) := p3
    clear p0 p1 p2 p3
    refine wpI_step 11 rfl (by kernel_rfl) (by kernel_rfl) ⟨(P0.out _ _).cell, (P1.out _ _).cell⟩ (fun K hK => ?_)
    gi_wp2
    try (refine hK _ _ ?_; clear hK K)
    have s0 := (P0.out (1 + m) (.int .u64 q)).kept (grown_set _ (w.heap.size + 1 + 1) 0 (.int .u64 r')) (fun e => by have := Option.some.inj e; omega)
    have s1 := (P1.out (1 + m) (.int .u64 q)).kept (grown_set _ (w.heap.size + 1 + 1) 0 (.int .u64 r')) (fun e => by have := Option.some.inj e; omega)
    have s2 := (P2.out (1 + m) (.int .u64 q)).set (.int .u64 r')
    have s3 := (P3.out (1 + m) (.int .u64 q)).kept (grown_set _ (w.heap.size + 1 + 1) 0 (.int .u64 r')) (fun e => by have := Option.some.inj e; omega)
    have hbs := (show Blk (W.drewN (1 + m)) g (L ++ R) from HB.out).set i q (by simp; have := HST.out.len; simp at this; omega)
    rw [List.set_append_left _ _ (by have := HST.out.len; simp at this; omega)] at hbs
    have hbs2 := hbs.kept (grown_set _ (w.heap.size + 1 + 1) 0 (.int .u64 r')) (by simp; omega)
    have hgr2 : w.grownBy (((W.drewN (1 + m)).setCell ⟨g, i, none⟩ (.int .u64 q)).setCell ⟨w.heap.size + 1 + 1, 0, none⟩ (.int .u64 r')) (some g) :=
      (grown_trans (grown_trans hgr (grown_drewN W (1 + m) (some g))) (grown_set _ _ _ _)).andThen (grown_set _ _ _ _) (fun j hj => .inl (by injection hj with hj; omega))
    have hkf : KeepsFrom W0.heap.size W (((W.drewN (1 + m)).setCell ⟨g, i, none⟩ (.int .u64 q)).setCell ⟨w.heap.size + 1 + 1, 0, none⟩ (.int .u64 r')) :=
      KeepsFrom.trans (Y := W.drewN (1 + m)) ⟨Nat.le_refl _, fun _ _ _ h _ => h⟩ (KeepsFrom.trans ((KeepsOthers.setCell (W.drewN (1 + m)) ⟨g, i, none⟩ (.int .u64 q)).from _) ((KeepsOthers.setCell _ ⟨w.heap.size + 1 + 1, 0, none⟩ (.int .u64 r')).from _))
    refine wpI_done (by kernel_rfl) ⟨s0.cell, s1.cell⟩ ?_
    gi_wp2
    exact ⟨hkf, L.set i q, r', by omega, by rw [show A.length - (k + 1) = i by have := HI.out; omega]; exact HST.out, hbs2, s0, s1, s2, s3, hgr2⟩
  case done =>
    rintro W ⟨L, r, hk, hst, hb, h0, h1, h2, h3, hgr⟩ hD hDs
    rw [Nat.sub_self] at hst
    obtain ⟨e1, e2⟩ := hst.done
    subst e1 e2
    have c2 := h2.cell
    have HB : Hid (Blk W g (fix A.length (uval A / d) ++ R)) := hb
    have HD : Hid (W.heap[W0.heap.size]? = some (.deferred (some []))) := hD
    have HG : Hid (w.grownBy W (some g)) := hgr
    clear hst hb h0 h1 h2 h3 hD hgr k64 kmk b0 b1 b2 b3 hg0
    go_wp2
    refine ⟨by simp, .inl ⟨_, _, rfl, run_takeDeferred HD.out, ?_⟩⟩
    refine ⟨_, results_tmp rfl _ _ _, rfl, HB.out.kept (grownBy_putObj' W W0.heap.size (.deferred none)) (by simp; omega), ?_⟩
    exact HG.out.andThen (grownBy_putObj' W W0.heap.size (.deferred none)) (fun j hj => .inl (by injection hj with hj; omega))
end Go.Proofs.YtckmmdmimlhmoaaDoor
