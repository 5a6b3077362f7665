import Derived.Test.YtckmmdmimlhmoaaDoorNatIn
import Derived.Test.YtckmmdmimlhmoaaDoorNatsIn
import Derived.Test.YtckmmdmimlhmoaaDoorNatC
import Derived.Test.YtckmmdmimlhmoaaDoorNatTy
namespace Go.Proofs.YtckmmdmimlhmoaaDoor
open Go.ChangeShapes Go.WideShapes Go.ChangeAt Go.RowKit
set_option linter.unusedVariables false

/-! ### the developers' contracts as the laws take them -/
theorem natadd_any (v : Value) (L : List (List Nat)) (hl : ∀ l ∈ L, Limbs l) (hb : L.length + (L.map List.length).sum ≤ 16777216) (w : World) (h : RowUU w v L) :
    Calls Tryd.prog 6 #[v] w fun e w' => ∃ v', e = .returned v' ∧ RowU w' v' (lim (L.map uval).sum) ∧ Below w.heap.size w w' :=
  (natadd_own v L hl hb w h).mono fun e w' ⟨v', h1, h2, h3⟩ => ⟨v', h1, h2.row, h3⟩
theorem natmul_any (v : Value) (L : List (List Nat)) (hl : ∀ l ∈ L, Limbs l) (hb : L.length + (L.map List.length).sum ≤ 16777216) (w : World) (h : RowUU w v L) :
    Calls Tryd.prog 8 #[v] w fun e w' => ∃ v', e = .returned v' ∧ RowU w' v' (lim (L.map uval).prod) ∧ Below w.heap.size w w' :=
  (natmul_own v L hl hb w h).mono fun e w' ⟨v', h1, h2, h3⟩ => ⟨v', h1, h2.row, h3⟩
theorem natsub_ge (va vb : Value) (l m : List Nat) (hl : Limbs l) (hm : Limbs m) (hb : l.length ≤ 16777216) (hc : m.length ≤ 16777216) (hge : uval m ≤ uval l) (w : World) (h : RowU w va l) (g : RowU w vb m) :
    Calls Tryd.prog 9 #[va, vb] w fun e w' => ∃ v', e = .returned (.tuple #[v', .nilIface]) ∧ RowU w' v' (lim (uval l - uval m)) ∧ Below w.heap.size w w' :=
  (natsub_own va vb l m hl hm hb hc hge w h g).mono fun e w' ⟨v', h1, h2, h3⟩ => ⟨v', h1, h2.row, h3⟩
theorem natdiv_any (va vb : Value) (l m : List Nat) (hl : Limbs l) (hm : Limbs m) (hb : l.length ≤ 16777216) (hc : m.length ≤ 16777216) (h0 : 0 < uval m) (w : World) (h : RowU w va l) (g : RowU w vb m) :
    Calls Tryd.prog 10 #[va, vb] w fun e w' => ∃ v1 v2, e = .returned (.tuple #[v1, v2, .nilIface]) ∧ RowU w' v1 (lim (uval l / uval m)) ∧ RowU w' v2 (lim (uval l % uval m)) ∧ Below w.heap.size w w' := by
  by_cases hlt : uval l < uval m
  · refine (natdiv_lt va vb l m hl hm hb hc hlt w h g).mono fun e w' ⟨v2, h1, h2, h3⟩ => ⟨_, v2, h1, ?_, ?_, h3⟩
    · rw [Nat.div_eq_of_lt hlt]; exact (OwnU.nil 0 w').row
    · rw [Nat.mod_eq_of_lt hlt]; exact h2.row
  · refine (natdiv_ge va vb l m hl hm hb hc h0 (Nat.le_of_not_lt hlt) w h g).mono fun e w' ⟨v1, v2, h1, h2, h3⟩ => ⟨v1, v2, h1, ?_, ?_, h3⟩
    · obtain ⟨B', _, h4, _, _⟩ := h2; exact h4.row
    · obtain ⟨B', _, _, _, h5⟩ := h2; exact h5.row
theorem natshl_any (va : Value) (l : List Nat) (hl : Limbs l) (hb : l.length ≤ 16777216) (k : Nat) (hk : k ≤ 65536) (w : World) (h : RowU w va l) :
    Calls Tryd.prog 11 #[va, .int .i64 k] w fun e w' => ∃ v, e = .returned (.tuple #[v, .nilIface]) ∧ RowU w' v (lim (uval l * 2 ^ k)) ∧ Below w.heap.size w w' :=
  (natshl_own va l hl hb k hk w h).mono fun e w' ⟨v', h1, h2, h3⟩ => ⟨v', h1, h2.row, h3⟩
theorem natshr_any (va : Value) (l : List Nat) (hl : Limbs l) (hb : l.length ≤ 16777216) (k : Nat) (hk : k ≤ 9223372036854775807) (w : World) (h : RowU w va l) :
    Calls Tryd.prog 12 #[va, .int .i64 k] w fun e w' => ∃ v, e = .returned (.tuple #[v, .bool (decide (uval l % 2 ^ k ≠ 0)), .nilIface]) ∧ RowU w' v (lim (uval l / 2 ^ k)) ∧ Below w.heap.size w w' :=
  (natshr_own va l hl hb k hk w h).mono fun e w' ⟨v', h1, h2, h3⟩ => ⟨v', h1, h2.row, h3⟩
end Go.Proofs.YtckmmdmimlhmoaaDoor
