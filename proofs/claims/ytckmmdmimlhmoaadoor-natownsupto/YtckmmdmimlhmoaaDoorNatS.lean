import Derived.Test.YtckmmdmimlhmoaaDoorNatR
namespace Go.Proofs.YtckmmdmimlhmoaaDoor
open Go.ChangeShapes Go.WideShapes Go.ChangeAt Go.RowKit
set_option linter.unusedVariables false
set_option linter.unusedSimpArgs false
set_option maxRecDepth 100000

/-! ### slices.Clone -/
/-- a copy: none of nil; else a row of the call's own -/
def Copy (B : Nat) (w : World) (v : Value) (l : List Nat) : Prop :=
  (l = [] ∧ v = .slice none 0 0) ∨ ∃ g c, v = .slice (some ⟨g, 0, none⟩) l.length c ∧ l.length ≤ c ∧ c ≤ 9223372036854775807 ∧ B ≤ g ∧ Blk w g l
theorem run_eql_nil (w : World) (a : Option Addr) (l c : Nat) : (binOp .eql 23 (.slice a l c) (.slice none 0 0)).run Tryd.prog w = .ok (.bool a.isNone) w := by
  unfold binOp
  simp [run_equal_slice_nil w 23 42 a l c Tryd.underlying23]
set_option maxHeartbeats 4000000 in
theorem natclone_any (v : Value) (l : List Nat) (hb : l.length ≤ 1073741824) (w : World) (h : RowU w v l) :
    Calls Tryd.prog 25 #[v] w fun e w' => ∃ v', e = .returned v' ∧ Copy w.heap.size w' v' l ∧ Below w.heap.size w w' := by
  obtain ⟨i0, hi, hz0, hz1, hz2⟩ := info_parts infoU64
  obtain ⟨ao, c, rfl, hc, hcl, hrow⟩ := h
  refine cps fun Q hQ => ?_
  cases ao with
  | none =>
    have hl : l = [] := by
      rcases hrow with h | ⟨b, off, h, _⟩
      · exact h
      · cases h
    subst hl
    have hnil := run_eql_nil
    go_enter Tryd.func25, Tryd.ntmps25
    go_wp2
    exact hQ.out _ _ ⟨_, rfl, .inl ⟨rfl, rfl⟩, Below.refl _ _⟩
  | some a0 =>
    obtain ⟨b0, o0, s0⟩ := a0
    have hlit : (w.alloc (.cells #[] 42)).ownsRow w.heap.size 42 1 (.slice (some ⟨w.heap.size, 0, none⟩) 0 0) 0 [] := World.ownsRow_lit w #[] 0 (Nat.le_refl _) (by decide) rfl
    have hnil := run_eql_nil
    have HR : Hid (l = [] ∨ ∃ b off, some (⟨b0, o0, s0⟩ : Addr) = some ⟨b, off, none⟩ ∧ b < w.heap.size ∧ ∀ j, j < l.length → w.cell? ⟨b, off + j, none⟩ = some (.int .u64 (l.getD j 0 : Nat))) := hrow
    clear hrow
    go_enter Tryd.func25, Tryd.ntmps25
    go_wp2_with (at_builtin; go_must (refine wpList_append_own _ rfl _ _ 23 rfl w.heap.size 42 i0 (.int .u64 0) 1 8 Tryd.underlying23 hi hz0 hz1 hz2 rfl (by decide) _ _ _ rfl hlit ⟨b0, o0, s0⟩ l.length c (l.map encU) rfl (by simp) ?_ (by simp [encU]; intros; rfl) (by unfold maxLen; omega) (by omega) (by simp) ?_))
    · intro j u hj
      rw [List.getElem?_map, Option.map_eq_some_iff] at hj
      obtain ⟨x, hx, rfl⟩ := hj
      have hlt : j < l.length := (List.getElem?_eq_some_iff.1 hx).1
      rcases HR.out with h | ⟨b, off, he, hbl, h⟩
      · rw [h] at hlt; cases hlt
      · injection he with he
        injection he with e1 e2 e3
        subst e1 e2 e3
        have := h j hlt
        have this : w.cell? ⟨b0, o0 + j, none⟩ = some (encU x) := by rw [this, List.getD_eq_getElem?_getD, hx]; rfl
        have this : (w.alloc (.cells #[] 42)).cell? ⟨b0, o0 + j, none⟩ = some (encU x) := (World.cell?_alloc_past _ _ _ hbl).trans this
        unfold Addr.add
        split
        · rename_i h; have hj0 : j = 0 := by simpa using h
          subst hj0; exact this
        · exact this
    · intro v2 w2 hown2 hg2 _
      have hbel : Below w.heap.size w w2 := (bmore (Below.refl _ _) _).grown hg2 (by simp) (fun k hk => by simp [Value.ownBlock] at hk; omega)
      have hc2 : Copy w.heap.size w2 v2 l := by
        rcases hown2.2 with ⟨rfl, hn⟩ | ⟨g, cap, cur, rfl, hb, hh, hn, hcap, _⟩
        · exact .inl ⟨List.length_eq_zero_iff.1 hn, rfl⟩
        · exact .inr ⟨g, cap, rfl, hn, by unfold maxLen at hcap; omega, hb, (blk_own hown2).1⟩
      have HC2 : Hid (Copy w.heap.size w2 v2 l) := hc2
      clear hg2 hown2 hc2
      go_wp2
      exact hQ.out _ _ ⟨_, rfl, HC2.out, hbel⟩

/-! ### shifts, up -/
theorem wrapShl' (x k : Nat) : IntKind.u64.wrap ((x : Int) * 2 ^ k) = ((x * 2 ^ k % 18446744073709551616 : Nat) : Int) := by
  rw [wrapShl, Nat.shiftLeft_eq]
theorem shrN' (x k : Nat) : (x : Int) / 2 ^ k = ((x / 2 ^ k : Nat) : Int) := by rw [shrN, Nat.shiftRight_eq_div_pow]
set_option maxHeartbeats 4000000 in
theorem natup_any (va : Value) (l : List Nat) (hl : Limbs l) (hb : l.length ≤ 1073741824) (k : Nat) (hk : k ≤ 1073741824) (w : World) (h : RowU w va l) :
    Calls Tryd.prog 28 #[va, .int .i64 k] w fun e w' => ∃ L : List Nat, e = .returned (.slice (some ⟨w.heap.size, 0, none⟩) (k / 64 + l.length + 1) (k / 64 + l.length + 1)) ∧ L.length = k / 64 + l.length + 1 ∧ Limbs L ∧ uval L = uval l * 2 ^ k ∧ Blk w' w.heap.size L ∧ Below w.heap.size w w' := by
  obtain ⟨i0, hi0, hz0, hz1, hz2⟩ := info_parts infoU64
  have HA : Hid (RowU w va l) := h
  have HL : Hid (Limbs l) := hl
  obtain ⟨ao, c, rfl, hc, hcl, _⟩ := h
  clear hl
  refine cps fun Q hQ => ?_
  obtain ⟨q, hq⟩ : ∃ q, q = k / 64 := ⟨_, rfl⟩
  obtain ⟨r, hr⟩ : ∃ r, r = k % 64 := ⟨_, rfl⟩
  have hkk : 64 * q + r = k := by omega
  have hr63 : r ≤ 63 := by omega
  have hqb : q ≤ 1073741824 := by omega
  rw [← hq] at hQ
  have k1 : (k : Int) / 64 = (q : Int) := by omega
  have k2 : (k : Int) % 64 = (r : Int) := by omega
  obtain ⟨j, hj⟩ : ∃ j, j = 64 - r := ⟨_, rfl⟩
  have k3 : (64 : Int) - r = (j : Int) := by omega
  have hj64 : j ≤ 64 := by omega
  have hj1 : 1 ≤ j := by omega
  have HJ : Hid (j = 64 - r) := hj
  have HK : Hid (64 * q + r = k) := hkk
  clear hq hr hkk hj
  go_enter Tryd.func28, Tryd.ntmps28
  go_wp2_with (at_make; go_must (refine wpList_make_full _ rfl _ _ 23 rfl w.heap.size 42 i0 (.int .u64 0) 1 Tryd.underlying23 hi0 hz0 hz1 .i64 .i64 _ _ (q + l.length + 1) rfl rfl (by omega) (by omega) (by rw [hz2]; omega) (by unfold maxLen; omega) (Nat.le_refl _) ?_); intro w1 hown hg)
  rw [made_u64] at hown
  have hbk := (blk_own hown).1
  have hbel := (Below.refl w.heap.size w).grown hg (Nat.le_refl _) (fun k hk => by cases hk)
  clear hown hg hi0 hz0 hz1 hz2
  go_loopw [7, 22] (fun yv iv wr => ∃ (i y : Nat) (L : List Nat), i ≤ l.length ∧ y ≤ 18446744073709551615 ∧ yv = .int .u64 y ∧ iv = .int .i64 i ∧ Hid (UpAt l q r i y L) ∧ Hid (Blk wr w.heap.size L) ∧ Hid (Below w.heap.size w wr)) (fun _ iv _ => l.length - (intOf iv).toNat)
  case atStart => exact ⟨0, 0, List.replicate (q + l.length + 1) 0, Nat.zero_le _, by decide, rfl, rfl, UpAt.start l q r, hbk, hbel⟩
  case round =>
    clear hbk hbel
    obtain ⟨i, y, L, hi, hy, rfl, rfl, hst, hbk, hbel⟩ := hrel
    by_cases hlt : i < l.length
    · obtain ⟨bb, ob, cb', he, _, _, _, hcells⟩ := (HA.out.below hbel.out).some' rfl (by omega)
      injection he with e1 e2 e3
      subst e1 e3
      have hx := hcells i hlt
      have hxl := limbs_getD HL.out i
      have hlen := hst.out.len
      obtain ⟨x, HX⟩ : ∃ x, Hid (l.getD i 0 = x) := ⟨_, rfl⟩
      rw [HX.out] at hx hxl
      have hstep := hst.out.step (x := x) hr63 hlt HX.out.symm HL.out
      obtain ⟨u1, u2, u3⟩ := up_word x y r hr63 hxl (by omega)
      rw [← HJ.out] at u1 u2 hstep
      have v1 := wrapShl' x r
      have v3 := shrN' y j
      obtain ⟨X, hX⟩ : ∃ X, X = x * 2 ^ r % 18446744073709551616 := ⟨_, rfl⟩
      obtain ⟨Y, hY⟩ : ∃ X, X = y / 2 ^ j := ⟨_, rfl⟩
      rw [← hX] at v1 u1 u2 hstep
      rw [← hY] at v3 u1 u2 hstep
      have v4 := u64_or_nat X Y (by omega) (by omega)
      rw [u2] at v4
      have hcell := hbk.out.cell (q + i) (by omega)
      rw [hst.out.nought (q + i) (by omega)] at hcell
      have hfz := hbk.out.frozen (q + i)
      have hset := hbk.out.set (q + i) (X + Y) (by omega)
      have HST : Hid (UpAt _ _ _ _ _ _) := hstep
      have HSET : Hid (Blk _ _ _) := hset
      have hxb : x ≤ 18446744073709551615 := by omega
      have hsum : X + Y ≤ 18446744073709551615 := by omega
      clear hcells hX hY hstep u1 u2 u3 hset hst hxl hlen
      go_wp2
      go_region
      all_goals
        go_wp2
        go_roundw
        case rel => exact ⟨i + 1, x, _, by omega, hxb, rfl, by go_num, HST.out, HSET.out, (hbel.out.setCell (p := ⟨w.heap.size, q + i, none⟩) (Nat.le_refl _) _).drew⟩
        case measure => simp [intOf]; omega
    · have hil : i = l.length := by omega
      subst hil
      obtain ⟨d1, d2⟩ := hst.out.done hr63
      rw [← HJ.out] at d1 d2
      have v3 := shrN' y j
      obtain ⟨Y, hY⟩ : ∃ X, X = y / 2 ^ j := ⟨_, rfl⟩
      rw [← hY] at v3 d1 d2
      have hlen := hst.out.len
      have hcell := hbk.out.cell (q + l.length) (by omega)
      rw [hst.out.nought (q + l.length) (by omega)] at hcell
      have hfz := hbk.out.frozen (q + l.length)
      have hset := hbk.out.set (q + l.length) Y (by omega)
      have HSET : Hid (Blk _ _ _) := hset
      have HD : Hid ((∀ d ∈ L.set (q + l.length) Y, d < 18446744073709551616) ∧ uval (L.set (q + l.length) Y) = uval l * 2 ^ k) := ⟨d1, by rw [d2, HK.out]⟩
      have HLN : Hid (L.length = q + l.length + 1) := hlen
      clear d1 d2 hY hset hlen hst
      go_wp2
      exact hQ.out _ _ ⟨_, rfl, by rw [List.length_set]; exact HLN.out, HD.out.1, HD.out.2, HSET.out, hbel.out.setCell (p := ⟨w.heap.size, q + l.length, none⟩) (Nat.le_refl _) _⟩
end Go.Proofs.YtckmmdmimlhmoaaDoor
