import Derived.Test.YtajlgpamcpgalaaRkA
namespace Go.Proofs.Ytajlgpamcpgalaa
open Go.ChangeShapes Go.WideShapes Go.ChangeAt Go.RowKit
set_option linter.unusedVariables false
set_option linter.unusedSimpArgs false
set_option maxRecDepth 100000

/-! ### what stands behind the run -/
theorem top_off (hi : Nat) (h1 : 9223372036854775808 ≤ hi) (h2 : hi < 18446744073709551616) : bits BinOp.andNot IntKind.u64 (hi : Int) 9223372036854775808 = ((hi - 9223372036854775808 : Nat) : Int) := by
  have := u64_andNot_nat hi 9223372036854775808 h2 (by decide)
  rw [show ((9223372036854775808 : Nat) : Int) = 9223372036854775808 from rfl] at this
  rw [this, show 18446744073709551615 - 9223372036854775808 = 2 ^ 63 - 1 by decide, Nat.and_two_pow_sub_one_eq_mod]
  have e : hi % 2 ^ 63 = hi - 9223372036854775808 := by omega
  rw [e]
theorem exp_or (h1 e : Nat) (h : h1 < 4611686018427387904) (he : e < 4) : bits BinOp.or IntKind.u64 (h1 : Int) (IntKind.u64.wrap ((e : Int) * 4611686018427387904)) = ((e * 4611686018427387904 + h1 : Nat) : Int) := by
  have e1 : IntKind.u64.wrap ((e : Int) * 4611686018427387904) = ((e * 4611686018427387904 : Nat) : Int) := by rw [IntKind.wrap_u64]; omega
  rw [e1, u64_or_nat h1 (e * 4611686018427387904) (by omega) (by omega)]
  congr 1
  have := Nat.two_pow_add_eq_or_of_lt (i := 62) (b := h1) h e
  rw [show 2 ^ 62 * e = e * 4611686018427387904 by rw [Nat.mul_comm]] at this
  rw [this, Nat.or_comm]
/-- an operation that its guard leaves out, carried to the front -/
theorem wpC_skip {P : Program} {ops : Array Oper} {Q : Exit → Act → World → Prop} {md : Region.Mode} {C : World → Prop} (i : Nat) {oi : Oper} {fuel : Nat} {listed : Array Bool} {a : Act} {w : World} (hi : ops[i]? = some oi)
    (hf : (Region.noSelect ops && Region.free md ops listed i && (Region.ready md ops listed).contains i) = true)
    (hQ : ∀ c a w, Q (.panic c) (a.put oi.dst undef) w → Q (.panic c) a w) (hwant : Region.wanted oi (yielded ops a.tmps) = false)
    (h : wpAnyC C P md ops Q fuel (listed.setIfInBounds i true) (a.put oi.dst undef) w) : wpAnyC C P md ops Q (fuel + 1) listed a w := by
  simp only [Bool.and_eq_true] at hf
  exact wpC_first hi (Region.noSelect_spec hf.1.1) hQ fuel listed a w (Region.free_spec hi hf.1.2) (by simpa using hf.2) (.inr ⟨hwant, rfl⟩) h
set_option maxHeartbeats 1000000 in
theorem rtail_any (e : Nat) (he : e < 4) (k : Int) (neg : Bool) (s : Int) (hi lo : Nat) (rest : Bool) (h : WordsX hi lo) {th tl : Nat} (ht : Tw (e * 2 ^ 126 + (manX hi lo - 2 ^ 127) / 2) th tl) (w : World) :
    Calls Try.prog 61 #[.int .i64 e, exV k neg s hi lo rest] w fun r w' => r = .returned (.tuple #[.agg #[.int .u64 th, .int .u64 tl], .bool (decide (lo % 2 = 1) || rest)]) ∧ Below w.heap.size w w' := by
  obtain ⟨a1, a2, a3⟩ := h
  have hA : Tw (manX hi lo - 2 ^ 127) (hi - 9223372036854775808) lo := by
    unfold manX
    rw [show (2 : Nat) ^ 127 = 9223372036854775808 * 18446744073709551616 by decide]
    exact ⟨by omega, by omega, by omega⟩
  obtain ⟨h1, l1, hs⟩ : ∃ h1 l1, Tw ((manX hi lo - 2 ^ 127) / 2 ^ 1) h1 l1 := by
    have := hA.lt
    exact ⟨(manX hi lo - 2 ^ 127) / 2 ^ 1 / 18446744073709551616, (manX hi lo - 2 ^ 127) / 2 ^ 1 % 18446744073709551616, by omega, by omega, by omega⟩
  have hh1 : h1 < 4611686018427387904 := by
    have e1 := hs.eq
    have e2 := hA.eq
    have e3 := hs.lo
    rw [e2] at e1
    clear ht hs hA
    omega
  have hlost : decide (lo % 2 = 1) = decide ((manX hi lo - 2 ^ 127) % 2 ^ 1 ≠ 0) := by
    rw [hA.eq]
    have : ((hi - 9223372036854775808) * 18446744073709551616 + lo) % 2 ^ 1 = lo % 2 := by omega
    rw [this]
    rcases Nat.mod_two_eq_zero_or_one lo with c | c <;> simp [c]
  obtain ⟨hth, rfl⟩ := ht.one (show Tw (e * 2 ^ 126 + (manX hi lo - 2 ^ 127) / 2) (e * 4611686018427387904 + h1) l1 from ⟨by
    have e1 := hs.eq
    rw [Nat.pow_one] at e1
    rw [e1, show (2 : Nat) ^ 126 = 4611686018427387904 * 18446744073709551616 by decide]
    omega, by omega, hs.lo⟩)
  have k1 := fun w => tshr_any 1 (by decide) hA hs hlost w
  have f1 := top_off hi a1 a2
  have f2 := exp_or h1 e hh1 he
  have f3 : IntKind.u64.wrap (e : Int) = (e : Int) := by rw [IntKind.wrap_u64]; omega
  have f4 : bits BinOp.or IntKind.u64 (h1 : Int) (IntKind.u64.wrap (IntKind.u64.wrap (e : Int) * 4611686018427387904)) = ((e * 4611686018427387904 + h1 : Nat) : Int) := by rw [f3]; exact f2
  have f5 : bits BinOp.or IntKind.u64 (h1 : Int) ((e : Int) * 4611686018427387904) = ((e * 4611686018427387904 + h1 : Nat) : Int) := by
    rw [← f2]; congr 1; rw [IntKind.wrap_u64]; omega
  rw [← hth] at f2 f4 f5
  obtain ⟨hi', hhi⟩ : ∃ x, x = hi - 9223372036854775808 := ⟨_, rfl⟩
  rw [← hhi] at f1 k1
  clear hA hs hlost ht a1 a2 a3 hh1 hth hhi
  generalize decide (lo % 2 = 1) = lost at *
  unfold exV
  refine cps fun Q hQ => ?_
  cases lost
  · go_enter Try.func61, Try.ntmps61
    go_wp2_with (go_at_call 62; refine (k1 _).mono ?_; rintro e w1 ⟨rfl, hb1⟩; obtain ⟨hc1, hf1⟩ := bcell hb1; have z1 : w.heap.size + 1 < w1.heap.size := (by have := hb1.size; simp at this; omega); have z0 : w.heap.size < w1.heap.size := (by omega))
    refine wpC_region (fun W => W.cell? ⟨w.heap.size, 5, none⟩ = some (.bool rest) ∧ W.cell? ⟨w1.heap.size, 0, none⟩ = some (.int .u64 th) ∧ W.cell? ⟨w1.heap.size, 1, none⟩ = some (.int .u64 tl)) (by kernel_rfl) ?_
    refine wpC_take 0 (v := ?_) rfl (by kernel_rfl) (fun _ _ _ h => h) (by kernel_rfl) ?_ ?_; rotate_left; · (intro wC hC; obtain ⟨c1, c2, c3⟩ := hC; go_simp <;> with_reducible rfl)
    refine wpC_take 1 (v := ?_) rfl (by kernel_rfl) (fun _ _ _ h => h) (by kernel_rfl) ?_ ?_; rotate_left; · (intro wC hC; obtain ⟨c1, c2, c3⟩ := hC; go_simp <;> with_reducible rfl)
    refine wpC_take 2 (v := ?_) rfl (by kernel_rfl) (fun _ _ _ h => h) (by kernel_rfl) ?_ ?_; rotate_left; · (intro wC hC; obtain ⟨c1, c2, c3⟩ := hC; go_simp <;> with_reducible rfl)
    refine wpC_take 3 (v := ?_) rfl (by kernel_rfl) (fun _ _ _ h => h) (by kernel_rfl) ?_ ?_; rotate_left; · (intro wC hC; obtain ⟨c1, c2, c3⟩ := hC; go_simp <;> with_reducible rfl)
    refine wpC_take 4 (v := ?_) rfl (by kernel_rfl) (fun _ _ _ h => h) (by kernel_rfl) ?_ ?_; rotate_left; · (intro wC hC; obtain ⟨c1, c2, c3⟩ := hC; go_simp <;> with_reducible rfl)
    refine wpC_take 5 (v := ?_) rfl (by kernel_rfl) (fun _ _ _ h => h) (by kernel_rfl) ?_ ?_; rotate_left; · (intro wC hC; obtain ⟨c1, c2, c3⟩ := hC; go_simp <;> with_reducible rfl)
    refine wpC_step 6 rfl (by kernel_rfl) (by kernel_rfl) (by simp [go_sem, hc1, z0, f5]) (fun K hK => ?_)
    go_simp
    try (refine hK _ _ ?_; clear hK K)
    refine wpC_take 7 (v := ?_) rfl (by kernel_rfl) (fun _ _ _ h => h) (by kernel_rfl) ?_ ?_; rotate_left; · (intro wC hC; obtain ⟨c1, c2, c3⟩ := hC; go_simp <;> with_reducible rfl)
    refine wpC_done (by kernel_rfl) (by simp [go_sem, hc1, z0, f5]) ?_
    go_wp2
    refine bodyPost_ret (v := .tuple #[.agg #[.int .u64 th, .int .u64 tl], .bool _]) (by simp [results, Try.results61, go_sem, hc1, z0, z1]) rfl (hQ.out _ _ ⟨rfl, ?_⟩)
    exact bdrew (bmore (bset (bset (bthen (bmore (bmore (Below.refl _ _) _) _) hb1) (by omega) _ _) (by omega) _ _) _)
  · go_enter Try.func61, Try.ntmps61
    go_wp2_with (go_at_call 62; refine (k1 _).mono ?_; rintro e w1 ⟨rfl, hb1⟩; obtain ⟨hc1, hf1⟩ := bcell hb1; have z1 : w.heap.size + 1 < w1.heap.size := (by have := hb1.size; simp at this; omega); have z0 : w.heap.size < w1.heap.size := (by omega))
    refine wpC_region (fun W => W.cell? ⟨w.heap.size, 5, none⟩ = some (.bool rest) ∧ W.cell? ⟨w1.heap.size, 0, none⟩ = some (.int .u64 th) ∧ W.cell? ⟨w1.heap.size, 1, none⟩ = some (.int .u64 tl)) (by kernel_rfl) ?_
    refine wpC_take 0 (v := ?_) rfl (by kernel_rfl) (fun _ _ _ h => h) (by kernel_rfl) ?_ ?_; rotate_left; · (intro wC hC; obtain ⟨c1, c2, c3⟩ := hC; go_simp <;> with_reducible rfl)
    refine wpC_take 1 (v := ?_) rfl (by kernel_rfl) (fun _ _ _ h => h) (by kernel_rfl) ?_ ?_; rotate_left; · (intro wC hC; obtain ⟨c1, c2, c3⟩ := hC; go_simp <;> with_reducible rfl)
    refine wpC_take 2 (v := ?_) rfl (by kernel_rfl) (fun _ _ _ h => h) (by kernel_rfl) ?_ ?_; rotate_left; · (intro wC hC; obtain ⟨c1, c2, c3⟩ := hC; go_simp <;> with_reducible rfl)
    refine wpC_skip 3 rfl (by kernel_rfl) (fun _ _ _ h => h) (by kernel_rfl) ?_
    refine wpC_skip 4 rfl (by kernel_rfl) (fun _ _ _ h => h) (by kernel_rfl) ?_
    refine wpC_take 5 (v := ?_) rfl (by kernel_rfl) (fun _ _ _ h => h) (by kernel_rfl) ?_ ?_; rotate_left; · (intro wC hC; obtain ⟨c1, c2, c3⟩ := hC; go_simp <;> with_reducible rfl)
    refine wpC_step 6 rfl (by kernel_rfl) (by kernel_rfl) (by simp [go_sem, hc1, z0, f5]) (fun K hK => ?_)
    go_simp
    try (refine hK _ _ ?_; clear hK K)
    refine wpC_take 7 (v := ?_) rfl (by kernel_rfl) (fun _ _ _ h => h) (by kernel_rfl) ?_ ?_; rotate_left; · (intro wC hC; obtain ⟨c1, c2, c3⟩ := hC; go_simp <;> with_reducible rfl)
    refine wpC_done (by kernel_rfl) (by simp [go_sem, hc1, z0, f5]) ?_
    go_wp2
    refine bodyPost_ret (v := .tuple #[.agg #[.int .u64 th, .int .u64 tl], .bool _]) (by simp [results, Try.results61, go_sem, hc1, z0, z1]) rfl (hQ.out _ _ ⟨rfl, ?_⟩)
    exact bdrew (bmore (bset (bset (bthen (bmore (bmore (Below.refl _ _) _) _) hb1) (by omega) _ _) (by omega) _ _) _)
end Go.Proofs.Ytajlgpamcpgalaa
