import Derived.Test.YtckmmdmimlhmoaaDoorNatU
namespace Go.Proofs.YtckmmdmimlhmoaaDoor
open Go.ChangeShapes Go.WideShapes Go.ChangeAt Go.RowKit Go.Shelf
set_option linter.unusedVariables false
set_option linter.unusedSimpArgs false
set_option maxRecDepth 100000
attribute [local go_sem] Oper.semAt_some

/-! ### shifts, down -/
theorem RowU.take' {w : World} {ao : Option Addr} {c k : Nat} {l : List Nat} (h : RowU w (.slice ao k c) l) (n : Nat) (hn : n ≤ l.length) : RowU w (.slice ao n c) (l.take n) := by
  obtain ⟨ao', c', he, hc, hl, h⟩ := h
  injection he with e1 e2 e3
  subst e1 e2 e3
  have e : (l.take n).length = n := by rw [List.length_take]; omega
  refine ⟨ao, c, by rw [e], hc, by omega, ?_⟩
  rcases h with h1 | ⟨b, off, h1, h2, h3⟩
  · exact .inl (by rw [h1]; simp)
  · refine .inr ⟨b, off, h1, h2, fun j hj => ?_⟩
    rw [e] at hj
    rw [h3 j (by omega), List.getD_eq_getElem?_getD, List.getD_eq_getElem?_getD, List.getElem?_take_of_lt hj]
/-- 'a[n:]' -/
theorem RowU.drop {w : World} {b off c k : Nat} {l : List Nat} (h : RowU w (.slice (some ⟨b, off, none⟩) k c) l) (n : Nat) (hn : n ≤ l.length) : RowU w (.slice (some ⟨b, off + n, none⟩) (l.length - n) (c - n)) (l.drop n) := by
  obtain ⟨ao', c', he, hc, hl, h⟩ := h
  injection he with e1 e2 e3
  subst e1 e2 e3
  refine ⟨_, _, by rw [List.length_drop], by omega, by rw [List.length_drop]; omega, ?_⟩
  rcases h with h1 | ⟨b', off', h1, h2, h3⟩
  · exact .inl (by rw [h1]; simp)
  · injection h1 with h1
    injection h1 with e1 e2
    subst e1 e2
    refine .inr ⟨b, off + n, rfl, h2, fun j hj => ?_⟩
    rw [List.length_drop] at hj
    rw [Nat.add_assoc, h3 (n + j) (by omega), List.getD_eq_getElem?_getD, List.getD_eq_getElem?_getD, List.getElem?_drop]
theorem slice_low {w0 : World} {ao : Option Addr} {c q : Nat} {l : List Nat} (h : RowU w0 (.slice ao l.length c) l) (hq : q ≤ l.length) (hlen : l.length ≤ 1073741824) :
    ∃ ao', (∀ w, (Instr.slice 23 (.slice ao l.length c) (some (.int .i64 (q : Nat))) none none).run Tryd.prog w = .ok (.slice ao' (l.length - q) (c - q)) w) ∧ RowU w0 (.slice ao' (l.length - q) (c - q)) (l.drop q) := by
  have hrun := fun w => run_slice_l (P := Tryd.prog) w 23 ao l.length c (by kernel_rfl) .i64 (q : Int) (by omega) (by omega)
  have hsz : ∀ w, (sizeOf (Tryd.prog.elem 23)).run Tryd.prog w = .ok 1 w := fun w => by
    simp [sizeOf, go_sem]
    rfl
  refine ⟨if c = q then ao else ao.map (fun x => x.add (q * 1)), fun w => ?_, ?_⟩
  · rw [hrun w, hsz w]
    simp [Result.andThen, sliced]
  · by_cases hcq : c = q
    · have hl0 : l.drop q = [] := List.drop_eq_nil_of_le (by obtain ⟨_, _, he, _, hl, _⟩ := h; injection he with e1 e2 e3; omega)
      rw [if_pos hcq]
      refine ⟨_, _, by rw [hl0, show l.length - q = 0 by obtain ⟨_, _, he, _, hl, _⟩ := h; injection he with e1 e2 e3; omega]; rfl, by omega, by rw [hl0]; simp, .inl hl0⟩
    · rw [if_neg hcq]
      have h' := h
      obtain ⟨ao0, c0, he, hc, hcl, hr⟩ := h'
      injection he with e1 e2 e3
      subst e1 e3
      rcases hr with hr | ⟨b, off, rfl, _, _⟩
      · subst hr
        exact ⟨_, _, by simp; exact ⟨rfl, rfl⟩, by omega, by simp, .inl (by simp)⟩
      · have := h.drop q hq
        have e : Option.map (fun x => Addr.add x (q * 1)) (some (⟨b, off, none⟩ : Addr)) = some ⟨b, off + q, none⟩ := by
          simp only [Option.map_some, Addr.add, Nat.mul_one]
          by_cases h0 : q = 0
          · subst h0; simp
          · simp [h0]
        rw [e]; exact this
theorem Copy.shape {B : Nat} {w : World} {v : Value} {l : List Nat} (h : Copy B w v l) : ∃ ao c, v = .slice ao l.length c ∧ l.length ≤ c ∧ c ≤ 9223372036854775807 ∧ (l.length = 0 ∨ ∃ g, ao = some ⟨g, 0, none⟩ ∧ B ≤ g ∧ Blk w g l) := by
  rcases h with ⟨rfl, rfl⟩ | ⟨g, c, rfl, h1, h2, h3, h4⟩
  · exact ⟨none, 0, rfl, Nat.le_refl _, by decide, .inl rfl⟩
  · exact ⟨_, c, rfl, h1, h2, .inr ⟨g, rfl, h3, h4⟩⟩
theorem down_value (l : List Nat) (hl : Limbs l) (k q r : Nat) (hq : q = min (k / 64) l.length) (hr : r = k % 64) :
    uval (l.drop q) / 2 ^ r = uval l / 2 ^ k ∧ ((uval (l.drop q) % 2 ^ r ≠ 0 ∨ uval (l.take q) ≠ 0) ↔ uval l % 2 ^ k ≠ 0) := by
  have e := uval_top l q
  rw [Nat.min_eq_left (by omega)] at e
  have hlow : uval (l.take q) < 18446744073709551616 ^ q := by
    have := uval_lt' (l.take q) (fun d h => hl d (List.mem_of_mem_take h))
    rwa [List.length_take, Nat.min_eq_left (by omega)] at this
  rcases Nat.lt_or_ge l.length (k / 64) with g | g
  · have hq' : q = l.length := by omega
    subst hq'
    have hlt := uval_lt' l hl
    have hk : uval l < 2 ^ k := by
      refine Nat.lt_of_lt_of_le hlt ?_
      rw [bpow]; exact Nat.pow_le_pow_right (by decide) (by omega)
    rw [List.drop_length, List.take_length, uval_nil, Nat.zero_div, Nat.div_eq_of_lt hk, Nat.mod_eq_of_lt hk, Nat.zero_mod]
    simp
  · have hq' : k = 64 * q + r := by omega
    rw [hq', Nat.pow_add, ← bpow]
    have hp := bpos q
    constructor
    · rw [← Nat.div_div_eq_div_mul, e, Nat.add_mul_div_left _ _ hp, Nat.div_eq_of_lt hlow, Nat.zero_add]
    · have e2 : uval l % (18446744073709551616 ^ q * 2 ^ r) = uval (l.take q) + 18446744073709551616 ^ q * (uval (l.drop q) % 2 ^ r) := by
        rw [Nat.mod_mul]
        have e3 : uval l % 18446744073709551616 ^ q = uval (l.take q) := by
          rw [e, Nat.add_mul_mod_self_left, Nat.mod_eq_of_lt hlow]
        have e4 : uval l / 18446744073709551616 ^ q = uval (l.drop q) := by
          rw [e, Nat.add_mul_div_left _ _ hp, Nat.div_eq_of_lt hlow, Nat.zero_add]
        rw [e3, e4]
      rw [e2]
      generalize uval (l.drop q) % 2 ^ r = a
      generalize uval (l.take q) = b
      generalize 18446744073709551616 ^ q = p at hp
      constructor
      · rintro (h | h)
        · have := Nat.mul_pos hp (Nat.pos_of_ne_zero h); omega
        · omega
      · intro h
        by_cases g : b = 0
        · left; intro h2; rw [h2, g] at h; simp at h
        · exact .inr g
set_option maxHeartbeats 8000000 in
theorem natdown_any (va : Value) (l : List Nat) (hl : Limbs l) (hb : l.length ≤ 1073741824) (k : Nat) (hk : k ≤ 9223372036854775807) (w : World) (h : RowU w va l) :
    Calls Tryd.prog 31 #[va, .int .i64 k] w fun e w' => ∃ v, e = .returned (.tuple #[v, .bool (decide (uval l % 2 ^ k ≠ 0))]) ∧ OwnU w.heap.size w' v (uval l / 2 ^ k) ∧ Below w.heap.size w w' := by
  obtain ⟨q, hq⟩ : ∃ q, q = min (k / 64) l.length := ⟨_, rfl⟩
  obtain ⟨r, hr⟩ : ∃ r, r = k % 64 := ⟨_, rfl⟩
  obtain ⟨d1, d2⟩ := down_value l hl k q r hq hr
  obtain ⟨m1, hm1⟩ : ∃ m1, m1 = k / 64 := ⟨_, rfl⟩
  have k1 : (k : Int) / 64 = (m1 : Int) := by omega
  have k2 : (k : Int) % 64 = (r : Int) := by omega
  have k3 : min (m1 : Int) (l.length : Int) = (q : Int) := by omega
  have k4 : min (l.length : Int) (m1 : Int) = (q : Int) := by omega
  have hql : q ≤ l.length := by omega
  have hr63 : r ≤ 63 := by omega
  obtain ⟨j, hj⟩ : ∃ j, j = 64 - r := ⟨_, rfl⟩
  have j1 : IntKind.i64.wrap ((64 : Int) - r) = (j : Int) := by rw [wrapI (by omega)]; omega
  have j2 : (64 : Int) - r = (j : Int) := by omega
  have j3 : j ≤ 64 := by omega
  have j4 : IntKind.i64.wrap (j : Int) = (j : Int) := wrapI (by omega)
  have HJ : Hid (j = 64 - r) := hj
  have HL : Hid (Limbs l) := hl
  have HR : Hid (RowU w va l) := h
  have HD1 : Hid (uval (l.drop q) / 2 ^ r = uval l / 2 ^ k) := d1
  have HD2 : Hid ((uval (l.drop q) % 2 ^ r ≠ 0 ∨ uval (l.take q) ≠ 0) ↔ uval l % 2 ^ k ≠ 0) := d2
  obtain ⟨ao, c, rfl, hc, hcl, _⟩ := h
  obtain ⟨ao', hsl, hrow⟩ := slice_low HR.out hql hb
  have hmin : (if l.length < m1 then (l.length : Int) else (m1 : Int)) = (q : Int) := by split <;> omega
  have hS : Limbs (l.drop q) := fun d hd => HL.out d (List.mem_of_mem_drop hd)
  have HROW : Hid (RowU w (.slice ao' (l.length - q) (c - q)) (l.drop q)) := hrow
  have HHB : Hid (l.length ≤ 1073741824) := hb
  have hdl : (l.drop q).length = l.length - q := List.length_drop ..
  have KCL : Hid (∀ w', Below w.heap.size w w' → Calls _ _ _ _ _) := fun w' hbw => natclone_any (.slice ao' (l.length - q) (c - q)) (l.drop q) (by omega) w' (hrow.below hbw)
  clear hq hr hm1 hj d1 d2 hl hrow k3 k4
  refine (callsIn_wide (n := 8)).1 ?_
  refine callsIn_of_wp_marks Tryd.func31 rfl trivial ?_ rfl
  simp only [Tryd.ntmps31, List.size_toArray, List.length_cons, List.length_nil, Nat.reduceAdd, Nat.reduceSub, Array.replicate_succ, Array.replicate_zero, List.push_toArray, List.append_toArray, List.nil_append, List.cons_append]
  refine wpIn_wide.2 ?_
  go_wp2
  go_region
  all_goals
    go_wp2_with (first
      | (go_at_call 25; refine (KCL.out _ (bmore (Below.refl _ _) _).drew).mono ?_; rintro e w1 ⟨v1, rfl, hcp, hb1⟩
         have hcp' : Copy (w.heap.size + 1) w1 v1 (l.drop q) := (by simpa using hcp)
         obtain ⟨ao1, c1, rfl, hc1, hc2, hsh⟩ := hcp'.shape
         have HSH : Hid ((l.drop q).length = 0 ∨ ∃ g, ao1 = some ⟨g, 0, none⟩ ∧ w.heap.size + 1 ≤ g ∧ Blk w1 g (l.drop q)) := hsh
         have HB1 : Hid (Below ((w.alloc (Obj.cells #[Value.int IntKind.i64 ↑r] 3)).drew).heap.size ((w.alloc (Obj.cells #[Value.int IntKind.i64 ↑r] 3)).drew) w1) := hb1
         clear hcp hcp' hsh hb1; rw [hdl] at hc1; rw [hdl])
      | (go_at_call 29; refine (bwd_make _ _ rfl _ _ _ rfl).mono ?_; rintro e w' ⟨rfl, hw⟩; rw [hw]; clear hw w'))
    obtain ⟨n, hn⟩ : ∃ n, n = l.length - q := ⟨_, rfl⟩
    obtain ⟨S, hS'⟩ : ∃ S, S = l.drop q := ⟨_, rfl⟩
    rw [← hS', ← hn] at hdl
    rw [← hn] at hc1 ⊢
    rw [← hS'] at hS HD1 HD2 HSH
    have HSS : Hid (S = l.drop q) := hS'
    have hnb : n ≤ 1073741824 := by have := HHB.out; omega
    have bk1 : Boxed w1 w.heap.size 3 (.int .i64 r) := by
      have h0 : Boxed ((w.alloc (Obj.cells #[Value.int IntKind.i64 ↑r] 3)).drew) w.heap.size 3 (.int .i64 r) := Boxed.new w 3 (.int .i64 r)
      exact (HB1.out.block _ h0.lt).trans h0
    have hs1 : w.heap.size + 1 ≤ w1.heap.size := by have := HB1.out.size; simpa using this
    have hbel1 : Below w.heap.size w w1 := ((bmore (Below.refl _ w) (Obj.cells #[Value.int IntKind.i64 ↑r] 3)).drew).trans (HB1.out.mono (by simp))
    have hsh := HSH.out
    rw [hdl] at hsh
    clear hS' hn HB1 HSH hsl KCL HROW
    obtain ⟨W0, hW0⟩ : ∃ W0, W0 = (((w1.alloc (Obj.cells #[Value.slice ao1 n c1] 23)).alloc (Obj.cells #[Value.int IntKind.u64 0] 42)).alloc (Obj.cells #[Value.slice ao1 n c1] 23)) := ⟨_, rfl⟩
    rw [← hW0]
    have hsz : W0.heap.size = w1.heap.size + 3 := by rw [hW0]; simp
    have b0 : Boxed W0 w.heap.size 3 (.int .i64 r) := by
      rw [hW0]; exact ((bk1.alloc _).alloc _).alloc _
    have b1 : Boxed W0 w1.heap.size 23 (.slice ao1 n c1) := by
      rw [hW0]; exact ((Boxed.new w1 _ _).alloc _).alloc _
    have b2 : Boxed W0 (w1.heap.size + 1) 42 (.int .u64 0) := by
      rw [hW0]; have := Boxed.new (w1.alloc (Obj.cells #[Value.slice ao1 n c1] 23)) 42 (.int .u64 0)
      rw [World.size_alloc] at this; exact this.alloc _
    have b3 : Boxed W0 (w1.heap.size + 1 + 1) 23 (.slice ao1 n c1) := by
      rw [hW0]; have := Boxed.new ((w1.alloc (Obj.cells #[Value.slice ao1 n c1] 23)).alloc (Obj.cells #[Value.int IntKind.u64 0] 42)) 23 (.slice ao1 n c1)
      rw [World.size_alloc, World.size_alloc] at this; exact this
    have hbel0 : Below w.heap.size w W0 := by
      rw [hW0]
      exact (((hbel1.alloc (by omega) _).alloc (by simp; omega) _).alloc (by simp; omega) _)
    have hk0 : n = 0 ∨ ∃ g, ao1 = some ⟨g, 0, none⟩ ∧ w.heap.size + 1 ≤ g ∧ g < w1.heap.size ∧ Blk W0 g S := by
      rcases hsh with h | ⟨g, e, hg, hbk⟩
      · exact .inl h
      · refine .inr ⟨g, e, hg, hbk.lt, ?_⟩
        rw [hW0]
        exact ((hbk.kept (World.grownBy_alloc _ _ none) (by simp)).kept (World.grownBy_alloc _ _ none) (by simp)).kept (World.grownBy_alloc _ _ none) (by simp)
    have hSlen : S.length = n := hdl
    have HK0 : Hid (n = 0 ∨ ∃ g, ao1 = some ⟨g, 0, none⟩ ∧ w.heap.size + 1 ≤ g ∧ g < w1.heap.size ∧ Blk W0 g S) := hk0
    have HS : Hid (Limbs S) := hS
    have HSL : Hid (S.length = n) := hSlen
    clear hW0 hk0 hsh bk1 hbel1 hS hdl hSlen
    refine (wpIn_wide (n := 8)).1 ?_
    refine wpIn_bwd (w1.heap.size + 1 + 1) n c1 ao1 (fun k => S.getD (n - 1 - k) 0) rfl (by omega) hc2 hc1 rfl
      (fun k W => ∃ (L : List Nat) (y : Nat), k ≤ n ∧ DownAt S r (n - k) y L ∧ (n = 0 ∨ ∃ g, ao1 = some ⟨g, 0, none⟩ ∧ w.heap.size + 1 ≤ g ∧ g < w1.heap.size ∧ Blk W g L) ∧ Boxed W w.heap.size 3 (.int .i64 r) ∧ Boxed W w1.heap.size 23 (.slice ao1 n c1) ∧ Boxed W (w1.heap.size + 1) 42 (.int .u64 y) ∧ Boxed W (w1.heap.size + 1 + 1) 23 (.slice ao1 n c1) ∧ Below w.heap.size w W)
      (fun _ => False) ?own (fun _ _ _ _ h _ _ => h) ?start ?box ?cell
      (fun k0 => { tmps := #[Value.slice ao l.length c, Value.int IntKind.i64 ↑k, undef, Value.pointer (some { block := w.heap.size, off := 0 }), Value.slice none 0 0, Value.bool false, Value.int IntKind.i64 ↑q, Value.pointer (some { block := w1.heap.size, off := 0 }), Value.pointer (some { block := w1.heap.size + 1, off := 0 }), Value.int .i64 (n - 1 - k0 : Nat), Value.int .u64 (S.getD (n - 1 - k0) 0 : Nat), Value.int IntKind.i64 ↑k, Value.int IntKind.i64 ↑m1, Value.slice ao l.length c, Value.int IntKind.i64 ↑l.length, Value.int IntKind.i64 ↑q, Value.int IntKind.i64 ↑k, Value.int IntKind.i64 ↑r, Value.slice ao l.length c, Value.int IntKind.i64 ↑q, Value.slice ao' n (c - q), Value.slice ao1 n c1, Value.slice ao1 n c1, Value.func (Fn.func 44) #[] #[Value.pointer (some { block := w1.heap.size + 1 + 1, off := 0 })], Value.int .i64 (n - 1 - k0 : Nat), Value.int .u64 (S.getD (n - 1 - k0) 0 : Nat), undef, undef, undef, undef, undef, undef, undef, undef, undef, undef, undef, undef, undef, undef, undef, undef, undef, undef, undef, undef, undef, undef, undef, undef, undef, undef], defers := [] }) ?assign ?body ?done (fun _ h => h.elim)
    case own =>
      rintro k0 X Y row ⟨L, y, hk, hst, hb, h0, h1, h2, h3, hgr⟩ hgw hrow
      have hnc : ∀ (b : Nat) (cs : Array Value) (t : TypeId) (fz : Nat × Nat), X.heap[b]? = some (.cells cs t fz) → row ≠ some b := fun b cs t fz hb e => by
        obtain ⟨_, o, ho, hc⟩ := hrow b e
        rw [hb] at ho; cases ho; cases hc
      refine ⟨L, y, hk, hst, ?_, h0.kept hgw (fun e => hnc _ _ _ _ h0 e.symm), h1.kept hgw (fun e => hnc _ _ _ _ h1 e.symm), h2.kept hgw (fun e => hnc _ _ _ _ h2 e.symm), h3.kept hgw (fun e => hnc _ _ _ _ h3 e.symm),
        hgr.trans ((Below.refl _ X).grown hgw hgr.size (fun j hj => by have := (hrow j hj).1; omega))⟩
      rcases hb with h | ⟨g, e, hg1, hg2, hb⟩
      · exact .inl h
      · have hkb : row ≠ some g := by obtain ⟨tl, hb⟩ := hb; exact hnc _ _ _ _ hb
        exact .inr ⟨g, e, hg1, hg2, hb.kept hgw hkb⟩
    case start => exact ⟨S, 0, Nat.zero_le _, (by have := DownAt.start (A := S) r HS.out; rw [HSL.out] at this; exact this), HK0.out, b0, b1, b2, b3, hbel0⟩
    case box => rintro k0 W ⟨L, y, hk, hst, hb, h0, h1, h2, h3, hgr⟩; exact h3.cell
    case cell =>
      rintro k0 W ⟨L, y, hk, hst, hb, h0, h1, h2, h3, hgr⟩ hlt
      rcases hb with h | ⟨g, e, hg1, hg2, hb⟩
      · omega
      refine ⟨g, 0, e, ?_⟩
      have hl := hst.len
      have hl2 := HSL.out
      have := hb.cell (n - 1 - k0) (by omega)
      rw [Nat.zero_add, this, hst.low _ (by omega)]
    case assign =>
      intro l k0 W K hK
      gi_wp2
      exact hK
    case body =>
      rintro l k0 W ⟨L, y, hk, hst, hb, h0, h1, h2, h3, hgr⟩ hlt
      rcases hb with h | ⟨g, rfl, hg1, hg2, hb⟩
      · omega
      obtain ⟨i, hi⟩ : ∃ i, i = n - 1 - k0 := ⟨_, rfl⟩
      rw [← hi]
      rw [show n - k0 = i + 1 by omega] at hst
      have hin : i < n := by omega
      have hxl := limbs_getD HS.out i
      have hL := hst.len
      rw [HSL.out] at hL
      have hyl : y < 18446744073709551616 := by rw [hst.y]; exact limbs_getD HS.out _
      have hcell := hb.cell i (by omega)
      rw [hst.low _ (by omega)] at hcell
      have hfz := hb.frozen i
      obtain ⟨x, HX⟩ : ∃ x, Hid (S.getD i 0 = x) := ⟨_, rfl⟩
      rw [HX.out] at hxl hcell ⊢
      have hstep := hst.step hr63 HS.out HX.out.symm
      obtain ⟨u1, u2, u3⟩ := down_word x y r y hr63 hxl rfl
      rw [← HJ.out] at u1 u2 hstep
      have v1 := shrN' x r
      have v3 := wrapShl' y j
      obtain ⟨X, hX⟩ : ∃ X, X = x / 2 ^ r := ⟨_, rfl⟩
      obtain ⟨Z, hZ⟩ : ∃ X, X = y * 2 ^ j % 18446744073709551616 := ⟨_, rfl⟩
      rw [← hX] at v1 u1 u2 hstep
      rw [← hZ] at v3 u1 u2 hstep
      have v4 := u64_or_nat X Z (by omega) (by omega)
      rw [u2] at v4
      have hsum : X + Z ≤ 18446744073709551615 := by omega
      obtain ⟨D, hD⟩ : ∃ D, D = X + Z := ⟨_, rfl⟩
      rw [← hD] at v4 hstep hsum
      have hset := hb.set i D (by omega)
      have c0 := h0.cell
      have c1' := h1.cell
      have c2' := h2.cell
      have hxb : x ≤ 18446744073709551615 := by omega
      have hyb : y ≤ 18446744073709551615 := by omega
      have HST : Hid (DownAt S r i x (L.set i D)) := hstep
      have HI : Hid (i = n - 1 - k0) := hi
      have HB : Hid (Blk W g L) := hb
      have H0 : Hid (Boxed W w.heap.size 3 (.int .i64 r)) := h0
      have H1 : Hid (Boxed W w1.heap.size 23 (.slice (some ⟨g, 0, none⟩) n c1)) := h1
      have H2 : Hid (Boxed W (w1.heap.size + 1) 42 (.int .u64 y)) := h2
      have H3 : Hid (Boxed W (w1.heap.size + 1 + 1) 23 (.slice (some ⟨g, 0, none⟩) n c1)) := h3
      have HLN : Hid (L.length = n) := hL
      have HG : Hid (Below w.heap.size w W) := hgr
      clear hi hX hZ hD u1 u2 u3 hstep hst h0 h1 h2 h3 hb hL hxl hyl hset hgr b0 b1 b2 b3 hbel0
      gi_wp2
      refine wpI_region (C := fun W' => W'.cell? ⟨w.heap.size, 0, none⟩ = some (.int .i64 r) ∧ W'.cell? ⟨w1.heap.size, 0, none⟩ = some (.slice (some ⟨g, 0, none⟩) n c1) ∧ W'.cell? ⟨w1.heap.size + 1, 0, none⟩ = some (.int .u64 y)) (by kernel_rfl) ?_
      refine wpI_take (fun _ => trivial) (by kernel_rfl) 0 (v := ?_) rfl (by kernel_rfl) (fun _ _ _ h => h) (by kernel_rfl) ?_ ?_; rotate_left; · (intro wC hC; obtain ⟨hc0, hc1, hc2⟩ := hC; go_simp <;> with_reducible rfl)
      refine wpI_take (fun _ => trivial) (by kernel_rfl) 1 (v := ?_) rfl (by kernel_rfl) (fun _ _ _ h => h) (by kernel_rfl) ?_ ?_; rotate_left; · (intro wC hC; obtain ⟨hc0, hc1, hc2⟩ := hC; go_simp <;> with_reducible rfl)
      refine wpI_take (fun _ => trivial) (by kernel_rfl) 2 (v := ?_) rfl (by kernel_rfl) (fun _ _ _ h => h) (by kernel_rfl) ?_ ?_; rotate_left; · (intro wC hC; obtain ⟨hc0, hc1, hc2⟩ := hC; go_simp <;> with_reducible rfl)
      refine wpI_take (fun _ => trivial) (by kernel_rfl) 3 (v := ?_) rfl (by kernel_rfl) (fun _ _ _ h => h) (by kernel_rfl) ?_ ?_; rotate_left; · (intro wC hC; obtain ⟨hc0, hc1, hc2⟩ := hC; go_simp <;> with_reducible rfl)
      refine wpI_take (fun _ => trivial) (by kernel_rfl) 4 (v := ?_) rfl (by kernel_rfl) (fun _ _ _ h => h) (by kernel_rfl) ?_ ?_; rotate_left; · (intro wC hC; obtain ⟨hc0, hc1, hc2⟩ := hC; go_simp <;> with_reducible rfl)
      refine wpI_take (fun _ => trivial) (by kernel_rfl) 5 (v := ?_) rfl (by kernel_rfl) (fun _ _ _ h => h) (by kernel_rfl) ?_ ?_; rotate_left; · (intro wC hC; obtain ⟨hc0, hc1, hc2⟩ := hC; go_simp <;> with_reducible rfl)
      refine wpI_take (fun _ => trivial) (by kernel_rfl) 6 (v := ?_) rfl (by kernel_rfl) (fun _ _ _ h => h) (by kernel_rfl) ?_ ?_; rotate_left; · (intro wC hC; obtain ⟨hc0, hc1, hc2⟩ := hC; go_simp <;> with_reducible rfl)
      refine wpI_take (fun _ => trivial) (by kernel_rfl) 7 (v := ?_) rfl (by kernel_rfl) (fun _ _ _ h => h) (by kernel_rfl) ?_ ?_; rotate_left; · (intro wC hC; obtain ⟨hc0, hc1, hc2⟩ := hC; go_simp <;> with_reducible rfl)
      refine wpI_take (fun _ => trivial) (by kernel_rfl) 8 (v := ?_) rfl (by kernel_rfl) (fun _ _ _ h => h) (by kernel_rfl) ?_ ?_; rotate_left; · (intro wC hC; obtain ⟨hc0, hc1, hc2⟩ := hC; go_simp <;> with_reducible rfl)
      refine wpI_take (fun _ => trivial) (by kernel_rfl) 9 (v := ?_) rfl (by kernel_rfl) (fun _ _ _ h => h) (by kernel_rfl) ?_ ?_; rotate_left; · (intro wC hC; obtain ⟨hc0, hc1, hc2⟩ := hC; go_simp <;> with_reducible rfl)
      refine wpI_take (fun _ => trivial) (by kernel_rfl) 10 (v := ?_) rfl (by kernel_rfl) (fun _ _ _ h => h) (by kernel_rfl) ?_ ?_; rotate_left; · (intro wC hC; obtain ⟨hc0, hc1, hc2⟩ := hC; go_simp <;> with_reducible rfl)
      refine wpI_step 11 rfl (by kernel_rfl) (by kernel_rfl) ⟨c0, c1', c2'⟩ (fun K hK => ?_)
      gi_wp2
      try (refine hK _ _ ?_; clear hK K)
      have p0 : ∀ v, Boxed ((W.setCell ⟨g, i, none⟩ v).drew) w.heap.size 3 (.int .i64 r) := fun v => show Boxed (W.setCell ⟨g, i, none⟩ v) _ _ _ from H0.out.kept (grown_set _ _ _ _) (fun e => by have := Option.some.inj e; omega)
      have p1 : ∀ v, Boxed ((W.setCell ⟨g, i, none⟩ v).drew) w1.heap.size 23 (.slice (some ⟨g, 0, none⟩) n c1) := fun v => show Boxed (W.setCell ⟨g, i, none⟩ v) _ _ _ from H1.out.kept (grown_set _ _ _ _) (fun e => by have := Option.some.inj e; omega)
      have p2 : ∀ v, Boxed ((W.setCell ⟨g, i, none⟩ v).drew) (w1.heap.size + 1) 42 (.int .u64 y) := fun v => show Boxed (W.setCell ⟨g, i, none⟩ v) _ _ _ from H2.out.kept (grown_set _ _ _ _) (fun e => by have := Option.some.inj e; omega)
      have p3 : ∀ v, Boxed ((W.setCell ⟨g, i, none⟩ v).drew) (w1.heap.size + 1 + 1) 23 (.slice (some ⟨g, 0, none⟩) n c1) := fun v => show Boxed (W.setCell ⟨g, i, none⟩ v) _ _ _ from H3.out.kept (grown_set _ _ _ _) (fun e => by have := Option.some.inj e; omega)
      refine wpI_done (by kernel_rfl) ⟨(p0 _).cell, (p1 _).cell, (p2 _).cell⟩ ?_
      have hbs : Blk ((W.setCell ⟨g, i, none⟩ (.int .u64 D)).drew) g (L.set i D) := show Blk (W.setCell ⟨g, i, none⟩ (.int .u64 D)) g (L.set i D) from HB.out.set i D (by have := HLN.out; omega)
      have hkf : KeepsFrom W0.heap.size W ((W.setCell ⟨g, i, none⟩ (.int .u64 D)).drew) :=
        KeepsFrom.trans (Y := W.setCell ⟨g, i, none⟩ (.int .u64 D)) ((KeepsOthers.setCell W ⟨g, i, none⟩ (.int .u64 D)).from _) ⟨Nat.le_refl _, fun _ _ _ h _ => h⟩
      have hbl : Below w.heap.size w ((W.setCell ⟨g, i, none⟩ (.int .u64 D)).drew) := (HG.out.setCell (p := ⟨g, i, none⟩) (by show w.heap.size ≤ g; omega) _).drew
      have s0 := p0 (.int .u64 D)
      have s1 := p1 (.int .u64 D)
      have s2 := p2 (.int .u64 D)
      have s3 := p3 (.int .u64 D)
      clear p0 p1 p2 p3
      obtain ⟨V, hV⟩ : ∃ V, V = (W.setCell ⟨g, i, none⟩ (.int .u64 D)).drew := ⟨_, rfl⟩
      rw [← hV] at hbs hkf hbl s0 s1 s2 s3 ⊢
      clear hV c0 c1' c2' hcell hfz
      have c2'' := s2.cell
      have f2'' := s2.frozen
      have S0 : Hid (Boxed V w.heap.size 3 (.int .i64 r)) := s0
      have S1 : Hid (Boxed V w1.heap.size 23 (.slice (some ⟨g, 0, none⟩) n c1)) := s1
      have S2 : Hid (Boxed V (w1.heap.size + 1) 42 (.int .u64 y)) := s2
      have S3 : Hid (Boxed V (w1.heap.size + 1 + 1) 23 (.slice (some ⟨g, 0, none⟩) n c1)) := s3
      have HBS : Hid (Blk V g (L.set i D)) := hbs
      have HKF : Hid (KeepsFrom W0.heap.size W V) := hkf
      have HBL : Hid (Below w.heap.size w V) := hbl
      clear s0 s1 s2 s3 hbs hkf hbl
      gi_wp2
      refine ⟨HKF.out.trans ((KeepsOthers.setCell V ⟨w1.heap.size + 1, 0, none⟩ (.int .u64 x)).from _), L.set i D, x, by omega, by rw [show n - (k0 + 1) = i by have := HI.out; omega]; exact HST.out, .inr ⟨g, rfl, hg1, hg2, HBS.out.kept (grown_set _ _ _ _) (by simp; omega)⟩,
        S0.out.kept (grown_set _ _ _ _) (fun e => by have := Option.some.inj e; omega), S1.out.kept (grown_set _ _ _ _) (fun e => by have := Option.some.inj e; omega), S2.out.set _, S3.out.kept (grown_set _ _ _ _) (fun e => by have := Option.some.inj e; omega), HBL.out.setCell (p := ⟨w1.heap.size + 1, 0, none⟩) (by show w.heap.size ≤ w1.heap.size + 1; omega) _⟩
    case done =>
      rintro W ⟨L, y, hk', hst, hb, h0, h1, h2, h3, hgr⟩ hD hDs
      rw [Nat.sub_self] at hst
      obtain ⟨e1, e2⟩ := hst.done hr63
      have hLl := hst.lims
      have hL := hst.len
      rw [HSL.out] at hL
      rw [← HJ.out] at e2
      have hrow : RowU W (.slice ao1 n c1) L := by
        rcases hb with h | ⟨g, rfl, hg1, hg2, hb⟩
        · have hL0 : L = [] := List.length_eq_zero_iff.1 (by omega)
          exact ⟨_, _, by rw [hL], hc2, by omega, .inl hL0⟩
        · have := Blk.row (P := []) (A := L) (R := []) (by simpa using hb) c1 (by omega) hc2
          rw [hL] at this; exact this
      have hcut : ∀ m, Calls Tryd.prog 18 #[.slice ao1 n c1] (W.drewN m) fun e w' => e = .returned (.slice ao1 (lim (uval L)).length (lim (uval L)).length) ∧ w' = W.drewN m := fun m =>
        (natcut_raw _ L hLl (W.drewN m) (hrow.below (below_drewN (Below.refl _ W) m))).mono fun e w' ⟨⟨ao2, c2, he, h2⟩, h3⟩ => ⟨by injection he with a1 a2 a3; rw [a1]; exact h2, h3⟩
      have hnou : ∀ m, Calls Tryd.prog 21 #[.slice ao q c] (W.drewN m) fun e w' => e = .returned (.bool (decide (uval (l.take q) = 0))) ∧ w' = W.drewN m := fun m =>
        natnought_any _ _ (fun d hd => HL.out d (List.mem_of_mem_take hd)) (W.drewN m) (((HR.out.take' q hql).below hgr).below (below_drewN (Below.refl _ W) m))
      have hown : ∀ o, OwnU w.heap.size ((W.drewN o).putObj W0.heap.size (.deferred none)) (.slice ao1 (lim (uval L)).length (lim (uval L)).length) (uval l / 2 ^ k) := fun o => by
        rw [← HD1.out, ← e1]
        refine ⟨ao1, rfl, by have := lim_le_length L hLl; omega, ?_⟩
        rcases hb with h | ⟨g, rfl, hg1, hg2, hb⟩
        · have hL0 : L = [] := List.length_eq_zero_iff.1 (by omega)
          exact .inl (by rw [hL0, uval_nil, lim_zero])
        · refine .inr ⟨g, L.length - (lim (uval L)).length, rfl, by omega, ?_⟩
          rw [← lim_cut L hLl]
          exact (show Blk (W.drewN o) g L from hb).kept (grownBy_putObj' (W.drewN o) W0.heap.size (.deferred none)) (by simp; omega)
      have hbel : ∀ o, Below w.heap.size w ((W.drewN o).putObj W0.heap.size (.deferred none)) := fun o =>
        (below_drewN hgr o).grown (grownBy_putObj' (W.drewN o) W0.heap.size (.deferred none)) (by have := hgr.size; simpa using this) (fun j hj => by have := Option.some.inj hj; have := hbel0.size; omega)
      have v3 := wrapShl' y j
      obtain ⟨Z, hZ⟩ : ∃ X, X = y * 2 ^ j % 18446744073709551616 := ⟨_, rfl⟩
      rw [← hZ] at v3 e2
      have hd2 := HD2.out
      rw [← e2] at hd2
      have HOWN : Hid (∀ o, OwnU w.heap.size ((W.drewN o).putObj W0.heap.size (.deferred none)) (.slice ao1 (lim (uval L)).length (lim (uval L)).length) (uval l / 2 ^ k)) := hown
      have HBEL : Hid (∀ o, Below w.heap.size w ((W.drewN o).putObj W0.heap.size (.deferred none))) := hbel
      have HDD : Hid (W.heap[W0.heap.size]? = some (.deferred (some []))) := hD
      have c0 := h0.cell
      have c1' := h1.cell
      have c2' := h2.cell
      obtain ⟨M, hM⟩ : ∃ M, M = (lim (uval L)).length := ⟨_, rfl⟩
      clear hsz
      rw [← hM] at hcut HOWN
      have hyb : y ≤ 18446744073709551615 := by
        have := limbs_getD HS.out 0
        rw [hst.y]; omega
      by_cases h0Z : Z = 0
      · have hres : decide (uval l % 2 ^ k ≠ 0) = !decide (uval (l.take q) = 0) := by
          rw [← decide_not]; refine decide_eq_decide.2 ?_; rw [← hd2]; simp [h0Z]
        obtain ⟨b, hbb⟩ : ∃ b, b = decide (uval (l.take q) = 0) := ⟨_, rfl⟩
        rw [← hbb] at hres hnou
        have HRES : Hid (decide (uval l % 2 ^ k ≠ 0) = !b) := hres
        rw [h0Z] at v3
        clear hd2 hres hbb hZ hst hb h0 h1 h2 h3 hrow e1 e2 hLl hown hbel hD hM b0 b1 b2 b3 h0Z hgr hbel0
        go_wp2
        go_quiet (first
          | (go_at_call 18; exact Calls.quiet_of_same (hcut _))
          | (go_at_call 21; exact Calls.quiet_of_same (hnou _)))
        go_wp2
        refine ⟨by simp, .inl ⟨_, _, rfl, run_takeDeferred (show (W.drewN nq).heap[W0.heap.size]? = _ from HDD.out), ?_⟩⟩
        refine ⟨.tuple #[.slice ao1 M M, .bool (!b)], by simp [results, Tryd.results31, go_sem], ⟨_, by rw [HRES.out], HOWN.out _, HBEL.out _⟩⟩
      · have hres : decide (uval l % 2 ^ k ≠ 0) = true := decide_eq_true (hd2.1 (.inl h0Z))
        have HRES : Hid (decide (uval l % 2 ^ k ≠ 0) = true) := hres
        have hz0 : ((Z : Int) == 0) = false := by simp; exact h0Z
        have hz1 : decide ((Z : Int) = 0) = false := decide_eq_false (by omega)
        have hz2 : ¬ ((Z : Int) = 0) := by omega
        clear hd2 hres hZ hst hb h0 h1 h2 h3 hrow e1 e2 hLl hown hbel hD hM b0 b1 b2 b3 hgr hbel0 hnou
        go_wp2
        go_quiet (first
          | (go_at_call 18; exact Calls.quiet_of_same (hcut _)))
        go_wp2
        refine ⟨by simp, .inl ⟨_, _, rfl, run_takeDeferred (show (W.drewN nq).heap[W0.heap.size]? = _ from HDD.out), ?_⟩⟩
        refine ⟨.tuple #[.slice ao1 M M, .bool true], by simp [results, Tryd.results31, go_sem], ⟨_, by rw [HRES.out], HOWN.out _, HBEL.out _⟩⟩
end Go.Proofs.YtckmmdmimlhmoaaDoor
