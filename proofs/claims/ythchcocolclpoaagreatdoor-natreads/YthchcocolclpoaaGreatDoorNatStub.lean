import Derived.Test.YthchcocolclpoaaGreatDoorNatIn
import Derived.Test.YthchcocolclpoaaGreatDoorNatsIn
import Derived.Test.YthchcocolclpoaaGreatDoorNatC
import Derived.Test.YthchcocolclpoaaGreatDoorNatTy
namespace Go.Proofs.YthchcocolclpoaaGreatDoor
open Go.ChangeShapes Go.WideShapes Go.ChangeAt Go.RowKit
set_option linter.unusedVariables false

/-! ### the developers' contracts as the laws take them -/
theorem natadd_any (v : Value) (L : List (List Nat)) (hl : ∀ l ∈ L, Limbs l) (hb : L.length + (L.map List.length).sum ≤ 16777216) (w : World) (h : RowUU w v L) :
    Calls Tryz.prog 9 #[v] w fun e w' => ∃ v', e = .returned v' ∧ RowU w' v' (lim (L.map uval).sum) ∧ Below w.heap.size w w' :=
  (natadd_own v L hl hb w h).mono fun e w' ⟨v', h1, h2, h3⟩ => ⟨v', h1, h2.row, h3⟩
theorem natmul_any (v : Value) (L : List (List Nat)) (hl : ∀ l ∈ L, Limbs l) (hb : L.length + (L.map List.length).sum ≤ 16777216) (w : World) (h : RowUU w v L) :
    Calls Tryz.prog 10 #[v] w fun e w' => ∃ v', e = .returned v' ∧ RowU w' v' (lim (L.map uval).prod) ∧ Below w.heap.size w w' :=
  (natmul_own v L hl hb w h).mono fun e w' ⟨v', h1, h2, h3⟩ => ⟨v', h1, h2.row, h3⟩
theorem natsub_ge (va vb : Value) (l m : List Nat) (hl : Limbs l) (hm : Limbs m) (hb : l.length ≤ 16777216) (hc : m.length ≤ 16777216) (hge : uval m ≤ uval l) (w : World) (h : RowU w va l) (g : RowU w vb m) :
    Calls Tryz.prog 11 #[va, vb] w fun e w' => ∃ v', e = .returned (.tuple #[v', .nilIface]) ∧ RowU w' v' (lim (uval l - uval m)) ∧ Below w.heap.size w w' :=
  (natsub_own va vb l m hl hm hb hc hge w h g).mono fun e w' ⟨v', h1, h2, h3⟩ => ⟨v', h1, h2.row, h3⟩
end Go.Proofs.YthchcocolclpoaaGreatDoor
