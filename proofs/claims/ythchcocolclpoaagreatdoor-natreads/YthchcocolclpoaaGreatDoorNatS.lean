import Derived.Test.YthchcocolclpoaaGreatDoorNatR
namespace Go.Proofs.YthchcocolclpoaaGreatDoor
open Go.ChangeShapes Go.WideShapes Go.ChangeAt Go.RowKit
set_option linter.unusedVariables false
set_option linter.unusedSimpArgs false
set_option maxRecDepth 100000

/-! ### slices.Clone -/
/-- a copy: none of nil; else a row of the call's own -/
def Copy (B : Nat) (w : World) (v : Value) (l : List Nat) : Prop :=
  (l = [] ∧ v = .slice none 0 0) ∨ ∃ g c, v = .slice (some ⟨g, 0, none⟩) l.length c ∧ l.length ≤ c ∧ c ≤ 9223372036854775807 ∧ B ≤ g ∧ Blk w g l
theorem run_eql_nil (w : World) (a : Option Addr) (l c : Nat) : (binOp .eql 24 (.slice a l c) (.slice none 0 0)).run Tryz.prog w = .ok (.bool a.isNone) w := by
  unfold binOp
  simp [run_equal_slice_nil w 24 36 a l c Tryz.underlying24]
set_option maxHeartbeats 4000000 in
theorem natclone_any (v : Value) (l : List Nat) (hb : l.length ≤ 1073741824) (w : World) (h : RowU w v l) :
    Calls Tryz.prog 31 #[v] w fun e w' => ∃ v', e = .returned v' ∧ Copy w.heap.size w' v' l ∧ Below w.heap.size w w' := by
  obtain ⟨i0, hi, hz0, hz1, hz2⟩ := info_parts infoU64
  obtain ⟨ao, c, rfl, hc, hcl, hrow⟩ := h
  refine cps fun Q hQ => ?_
  cases ao with
  | none =>
    have hl : l = [] := by
      rcases hrow with h | ⟨b, off, h, _⟩
      · exact h
      · cases h
    subst hl
    have hnil := run_eql_nil
    go_enter Tryz.func31, Tryz.ntmps31
    go_wp2
    exact hQ.out _ _ ⟨_, rfl, .inl ⟨rfl, rfl⟩, Below.refl _ _⟩
  | some a0 =>
    obtain ⟨b0, o0, s0⟩ := a0
    have hlit : (w.alloc (.cells #[] 36)).ownsRow w.heap.size 36 1 (.slice (some ⟨w.heap.size, 0, none⟩) 0 0) 0 [] := World.ownsRow_lit w #[] 0 (Nat.le_refl _) (by decide) rfl
    have hnil := run_eql_nil
    have HR : Hid (l = [] ∨ ∃ b off, some (⟨b0, o0, s0⟩ : Addr) = some ⟨b, off, none⟩ ∧ b < w.heap.size ∧ ∀ j, j < l.length → w.cell? ⟨b, off + j, none⟩ = some (.int .u64 (l.getD j 0 : Nat))) := hrow
    clear hrow
    go_enter Tryz.func31, Tryz.ntmps31
    go_wp2_with (at_builtin; go_must (refine wpList_append_own _ rfl _ _ 24 rfl w.heap.size 36 i0 (.int .u64 0) 1 8 Tryz.underlying24 hi hz0 hz1 hz2 rfl (by decide) _ _ _ rfl hlit ⟨b0, o0, s0⟩ l.length c (l.map encU) rfl (by simp) ?_ (by simp [encU]; intros; rfl) (by unfold maxLen; omega) (by omega) (by simp) ?_))
    · intro j u hj
      rw [List.getElem?_map, Option.map_eq_some_iff] at hj
      obtain ⟨x, hx, rfl⟩ := hj
      have hlt : j < l.length := (List.getElem?_eq_some_iff.1 hx).1
      rcases HR.out with h | ⟨b, off, he, hbl, h⟩
      · rw [h] at hlt; cases hlt
      · injection he with he
        injection he with e1 e2 e3
        subst e1 e2 e3
        have := h j hlt
        have this : w.cell? ⟨b0, o0 + j, none⟩ = some (encU x) := by rw [this, List.getD_eq_getElem?_getD, hx]; rfl
        have this : (w.alloc (.cells #[] 36)).cell? ⟨b0, o0 + j, none⟩ = some (encU x) := (World.cell?_alloc_past _ _ _ hbl).trans this
        unfold Addr.add
        split
        · rename_i h; have hj0 : j = 0 := by simpa using h
          subst hj0; exact this
        · exact this
    · intro v2 w2 hown2 hg2 _
      have hbel : Below w.heap.size w w2 := (bmore (Below.refl _ _) _).grown hg2 (by simp) (fun k hk => by simp [Value.ownBlock] at hk; omega)
      have hc2 : Copy w.heap.size w2 v2 l := by
        rcases hown2.2 with ⟨rfl, hn⟩ | ⟨g, cap, cur, rfl, hb, hh, hn, hcap, _⟩
        · exact .inl ⟨List.length_eq_zero_iff.1 hn, rfl⟩
        · exact .inr ⟨g, cap, rfl, hn, by unfold maxLen at hcap; omega, hb, (blk_own hown2).1⟩
      have HC2 : Hid (Copy w.heap.size w2 v2 l) := hc2
      clear hg2 hown2 hc2
      go_wp2
      exact hQ.out _ _ ⟨_, rfl, HC2.out, hbel⟩

/-! ### shifts, up -/
theorem wrapShl' (x k : Nat) : IntKind.u64.wrap ((x : Int) * 2 ^ k) = ((x * 2 ^ k % 18446744073709551616 : Nat) : Int) := by
  rw [wrapShl, Nat.shiftLeft_eq]
theorem shrN' (x k : Nat) : (x : Int) / 2 ^ k = ((x / 2 ^ k : Nat) : Int) := by rw [shrN, Nat.shiftRight_eq_div_pow]
end Go.Proofs.YthchcocolclpoaaGreatDoor
