import Derived.Test.YtajlgpamcpgalaaNumsB
namespace Go.Proofs.Ytajlgpamcpgalaa
open Go.ChangeShapes Go.WideShapes Go.ChangeAt Go.RowKit
set_option linter.unusedVariables false
set_option maxRecDepth 100000

theorem owns_below {w w' : World} {base n sz : Nat} {e : TypeId} {v : Value} {xs : List Value} (h : w.ownsRow base e sz v n xs) (hb : Below w.heap.size w w') : w'.ownsRow base e sz v n xs := by
  refine ⟨h.1, ?_⟩
  rcases h.2 with hn | ⟨g, cap, cur, rfl, hg, hgg, rest⟩
  · exact .inl hn
  · refine .inr ⟨g, cap, cur, rfl, hg, ?_, rest⟩
    rw [hb.block g (Array.getElem?_eq_some_iff.1 hgg).1]; exact hgg
theorem made_ints (n : Nat) : (madeCells (Value.int .i64 0).cells (n * 1)).toList = (List.replicate n 0).map enc := by
  have e : ∀ x : Nat, [Value.int .i64 0][x % 1]?.getD default = .int .i64 0 := fun x => by rw [Nat.mod_one]; rfl
  simp [madeCells, enc, Value.cells, e, List.map_const']
/-- 'l[q:]' of a row -/
theorem Row.drop {w : World} {b off c : Nat} {n k : Nat} (h : Row w (.slice (some ⟨b, off, none⟩) k c) (dig n)) (q : Nat) (hq : q ≤ dlen n) : Row w (.slice (some ⟨b, off + q, none⟩) (dlen n - q) (c - q)) (dig (top n q)) := by
  obtain ⟨ao', c', he, hc, hl, h⟩ := h
  injection he with e1 e2 e3
  subst e1 e2 e3
  have hl' : dlen n ≤ c := hl
  refine ⟨_, c - q, by rw [dig_length, dlen_top], by omega, by rw [dig_length, dlen_top]; omega, ?_⟩
  rcases h with ⟨h1, h2⟩ | ⟨b', off', h1, h2, h3⟩
  · simp at h1
  · simp at h1
    obtain ⟨rfl, rfl⟩ := h1
    refine .inr ⟨_, _, rfl, h2, fun j hj => ?_⟩
    rw [dig_length, dlen_top] at hj
    rw [Nat.add_assoc, h3 (q + j) (by rw [dig_length]; omega), dig_get, dig_get, top_add]

set_option maxHeartbeats 1000000 in
theorem nshl_any (va : Value) (a k : Nat) (hk : k ≤ 1099511627776) (hS : dlen a ≤ 1099511627776) (w : World) (ha : Row w va (dig a)) :
    Calls Try.prog 27 #[va, .int .i64 k] w fun e w' => ∃ v, e = .returned v ∧ Row w' v (dig (a * 2 ^ k)) ∧ Below w.heap.size w w' := by
  refine cps fun Q hQ => ?_
  have HA : Hid (Row w va (dig a)) := ha
  obtain ⟨aa, ca, rfl, h1, h2⟩ := ha.num
  clear ha
  obtain ⟨i0, hi, hz0, hz1, hz2⟩ := info_parts infoInt
  have hz := @dlen_eq_zero a
  have e0 : 2 ^ k = 2 ^ (k % 24) * 16777216 ^ (k / 24) := by
    have : (16777216 : Nat) = 2 ^ 24 := by decide
    rw [this, ← Nat.pow_mul, ← Nat.pow_add]; congr 1; omega
  by_cases h0 : dlen a = 0
  · have hn := hz.1 h0
    subst hn
    have HQ : Hid _ := hQ.out _ w ⟨.slice none 0 0, rfl, by rw [Nat.zero_mul, dig_zero]; exact row_nil w, Below.refl _ _⟩
    clear hz HA e0
    go_enter Try.func27, Try.ntmps27
    go_wp2
    exact HQ.out
  · have hn : a ≠ 0 := fun h => h0 (hz.2 h)
    have hq : 0 < 2 ^ (k % 24) := Nat.pow_pos (by decide)
    have hq2 : 2 ^ (k % 24) ≤ 2 ^ 24 := Nat.pow_le_pow_right (by decide) (by omega)
    have hne : a * 2 ^ (k % 24) ≠ 0 := Nat.mul_ne_zero hn (by omega)
    have hD : Hid (dig (a * 2 ^ k) = List.replicate (k / 24) 0 ++ dig (a * 2 ^ (k % 24))) := by
      show _ = _
      rw [e0, ← Nat.mul_assoc, dig_shift hne]
    have hT := two_any (k % 24) (by omega)
    have hlen : dlen (a * 2 ^ (k % 24)) ≤ 2199023255552 := by
      have h3 := lt_of_dlen_le (n := a) (Nat.le_refl _)
      refine Nat.le_trans (dlen_le_of_lt (k := dlen a + 2) ?_) (by omega)
      rw [Nat.pow_add]
      refine Nat.lt_of_le_of_lt (Nat.mul_le_mul (Nat.le_of_lt h3) hq2) ?_
      exact Nat.mul_lt_mul_of_pos_left (by decide) (Nat.pow_pos (by decide))
    have hdl : dlen (a * 2 ^ (k % 24)) ≠ 0 := fun h => hne (dlen_eq_zero.1 h)
    generalize hp : 2 ^ (k % 24) = p at *
    have HP : Hid (p ≤ 16777216) := by show _ ≤ _; omega
    clear hp e0 hq hq2 hz hn hne
    have hq : k / 24 ≤ 1099511627776 := by omega
    have hr24 : k % 24 ≤ 23 := by omega
    have hki : ((k : Int) / 24) = ((k / 24 : Nat) : Int) := by omega
    have hki2 : ((k : Int) % 24) = ((k % 24 : Nat) : Int) := by omega
    generalize k / 24 = q at *
    generalize k % 24 = r at *
    go_enter Try.func27, Try.ntmps27
    go_wp2_with (at_make; go_must (refine wpList_make_full _ rfl _ _ 63 rfl w.heap.size 3 i0 (.int .i64 0) 1 Try.underlying63 hi hz0 hz1 .i64 .i64 _ _ q rfl rfl (by omega) (by omega) (by rw [hz2]; omega) (by unfold maxLen; omega) (Nat.le_refl _) ?_); intro w1 hown hg)
    have hb0 := (Below.refl w.heap.size w).grown hg (Nat.le_refl _) (fun k hk => by cases hk)
    rw [made_ints] at hown
    have hs1 := hb0.size
    clear hg
    go_wp2_with (first
      | (go_at_call 52; refine (hT _).mono ?_; rintro e w' ⟨rfl, rfl⟩)
      | (go_at_call 51; refine (times_any _ a p HP.out hS _ (HA.out.below hb0)).mono ?_; rintro e w2 ⟨v2, rfl, hr2, hb2⟩
         obtain ⟨ao2, c2, rfl, hc2, hl2, hr2⟩ := hr2.reads
         obtain ⟨b2, o2, rfl, hlt2, hr2⟩ := hr2.resolve_left hdl
         have hown2 := owns_below hown hb2
         have hb3 := hb0.trans (hb2.mono hs1)
         have hs3 := hb3.size)
      | (at_builtin; go_must (refine wpList_append_own _ rfl _ _ 63 rfl w.heap.size 3 i0 (.int .i64 0) 1 8 Try.underlying63 hi hz0 hz1 hz2 rfl (by decide) _ _ _ rfl hown2 ⟨b2, o2, none⟩ (dlen (a * p)) c2 ((dig (a * p)).map enc) rfl (by simp [dlen]) ?_ (by simp [enc]; intros; rfl) (by unfold maxLen; omega) (by omega) hs3 ?_)))
    · intro j u hj
      rw [List.getElem?_map, Option.map_eq_some_iff] at hj
      obtain ⟨d, hd, rfl⟩ := hj
      have hlt : j < dlen (a * p) := (List.getElem?_eq_some_iff.1 hd).1
      have := hr2 j hlt
      rw [← dig_get, List.getD_eq_getElem?_getD, hd] at this
      have this : w2.cell? ⟨b2, o2 + j, none⟩ = some (.int .i64 (d : Nat)) := by simpa using this
      unfold Addr.add
      split
      · rename_i h; have hj0 : j = 0 := by simpa using h
        subst hj0; exact this
      · exact this
    · intro v' w3 hown3 hg3 _
      have hb4 := hb3.grown hg3 hs3 (fun k hk => by cases hk; exact Nat.le_refl _)
      have hr3 : Row w3 v' (List.replicate q 0 ++ dig (a * p)) := row_own (by rw [List.map_append, List.map_replicate]; exact hown3)
      rw [← hD.out] at hr3
      go_wp2
      exact hQ.out _ _ ⟨_, rfl, hr3, hb4⟩
theorem row_lit (w : World) (e : TypeId) (d : Nat) (hd : d ≠ 0) (hd2 : d < 16777216) : Row (w.alloc (.cells #[.int .i64 (d : Int)] e)) (.slice (some ⟨w.heap.size, 0, none⟩) 1 1) (dig d) := by
  have hl : dig d = [d] := by rw [dig_pos hd, show d / 16777216 = 0 by omega, dig_zero, Nat.mod_eq_of_lt hd2]
  rw [hl]
  refine ⟨_, 1, rfl, by decide, Nat.le_refl _, .inr ⟨_, 0, rfl, by simp, fun j hj => ?_⟩⟩
  have : j = 0 := by simpa using hj
  subst this
  exact World.cell?_alloc_at _ _ _ _ rfl

end Go.Proofs.Ytajlgpamcpgalaa
