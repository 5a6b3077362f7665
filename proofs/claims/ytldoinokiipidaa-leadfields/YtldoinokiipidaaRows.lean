/-
  No cell of these rows narrows 'for every input' (looked for: loops, veiled, ifaces, maps, wideKeys, modest, calm, conditions, laid).
  DERIVED. THE GIVEN ROWS OF THIS SEAT. 5 by the template 'for every input the law returns true; each argument reads behind the call as it read before'; 0 by the template 'total and deterministic' (their statements: YtldoinokiipidaaTotals.lean).
  GIVEN WITH THE SEED: the statements are not yours to turn. If you find one false, say at which input.
  Laid BY PROGRAM, IN A SANDBOX (cutbox-rows.mjs): the forced cells as the released guide's own fill.sh prints them over the translation e8ec42cd19bd5d9e… (all of the seat's roots in one cut). By AI agents, Wed Nov 11 2026. No macro, syntax, notation, axiom, sorry.
-/
import Derived.Test.YtldoinokiipidaaChecked
import GoSem.Claim
import GoSem.ClaimJoined
import GoSem.ClaimMapViews
import Derived.JoinedTies
import Derived.KernelRfl
namespace Go.Proofs.Ytldoinokiipidaa
/- THE CELL 'sum', in the pinned program and in every row, IS THE sha256 OF THE DUMP (.gsa) THAT YtldoinokiipidaaProg.lean LOADS. Nothing in Lean hashes anything: it is a label: what it is worth is what the hold of that sum in a sandbox is worth. -/
noncomputable def Try.pinned : Pinned := { name := "ytldoinokiipidaa", sum := "e8ec42cd19bd5d9e93cf975d65e748fa9732a476bd155c8db4abe5ea65ba36e2", checked := Try.checked }
namespace Rows
def none {H : Type} : Left H := { results := [], args := [] }

/-- 'vernierlaw01.LeadRuns': WHATEVER THE INPUT: true; the input reads as it did. -/
def leadRunsSpec : ChangeSpec := { name := "leadRuns", fn := fun _ => fun
  | [d1, d2] => { results := [.lit (.bool true)], args := [d1, d2] }
  | _ => none }
def leadRunsRow : OpenClaim := { program := "ytldoinokiipidaa", sum := "e8ec42cd19bd5d9e93cf975d65e748fa9732a476bd155c8db4abe5ea65ba36e2", func := "vernier/vernierlaw01.LeadRuns", spec := "leadRuns", apart := false }
def LeadRunsSaid : Prop := leadRunsRow.holds Try.pinned (OpenSpec.ofChange leadRunsSpec)

/-- ITS FALSE NEIGHBOUR: 'it returns false'. Refute it at one input. -/
def leadRunsWrong : ChangeSpec := { name := "leadRuns", fn := fun _ => fun
  | [d1, d2] => { results := [.lit (.bool false)], args := [d1, d2] }
  | _ => none }
def LeadRunsWrongFalsely : Prop := leadRunsRow.holds Try.pinned (OpenSpec.ofChange leadRunsWrong)

/-- 'vernierlaw01.LeadFields': WHATEVER THE INPUT: true; the input reads as it did. -/
def leadFieldsSpec : ChangeSpec := { name := "leadFields", fn := fun _ => fun
  | [d1, d2, d3] => { results := [.lit (.bool true)], args := [d1, d2, d3] }
  | _ => none }
def leadFieldsRow : OpenClaim := { program := "ytldoinokiipidaa", sum := "e8ec42cd19bd5d9e93cf975d65e748fa9732a476bd155c8db4abe5ea65ba36e2", func := "vernier/vernierlaw01.LeadFields", spec := "leadFields", apart := false }
def LeadFieldsSaid : Prop := leadFieldsRow.holds Try.pinned (OpenSpec.ofChange leadFieldsSpec)

/-- ITS FALSE NEIGHBOUR: 'it returns false'. Refute it at one input. -/
def leadFieldsWrong : ChangeSpec := { name := "leadFields", fn := fun _ => fun
  | [d1, d2, d3] => { results := [.lit (.bool false)], args := [d1, d2, d3] }
  | _ => none }
def LeadFieldsWrongFalsely : Prop := leadFieldsRow.holds Try.pinned (OpenSpec.ofChange leadFieldsWrong)

/-- 'vernierlaw01.LeadPuts': WHATEVER THE INPUT: true; the input reads as it did. -/
def leadPutsSpec : ChangeSpec := { name := "leadPuts", fn := fun _ => fun
  | [d1, d2, d3, d4] => { results := [.lit (.bool true)], args := [d1, d2, d3, d4] }
  | _ => none }
def leadPutsRow : OpenClaim := { program := "ytldoinokiipidaa", sum := "e8ec42cd19bd5d9e93cf975d65e748fa9732a476bd155c8db4abe5ea65ba36e2", func := "vernier/vernierlaw01.LeadPuts", spec := "leadPuts", apart := false }
def LeadPutsSaid : Prop := leadPutsRow.holds Try.pinned (OpenSpec.ofChange leadPutsSpec)

/-- ITS FALSE NEIGHBOUR: 'it returns false'. Refute it at one input. -/
def leadPutsWrong : ChangeSpec := { name := "leadPuts", fn := fun _ => fun
  | [d1, d2, d3, d4] => { results := [.lit (.bool false)], args := [d1, d2, d3, d4] }
  | _ => none }
def LeadPutsWrongFalsely : Prop := leadPutsRow.holds Try.pinned (OpenSpec.ofChange leadPutsWrong)

/-- 'vernierlaw01.LeadSigns': WHATEVER THE INPUT: true; the input reads as it did. -/
def leadSignsSpec : ChangeSpec := { name := "leadSigns", fn := fun _ => fun
  | [d1, d2] => { results := [.lit (.bool true)], args := [d1, d2] }
  | _ => none }
def leadSignsRow : OpenClaim := { program := "ytldoinokiipidaa", sum := "e8ec42cd19bd5d9e93cf975d65e748fa9732a476bd155c8db4abe5ea65ba36e2", func := "vernier/vernierlaw01.LeadSigns", spec := "leadSigns", apart := false }
def LeadSignsSaid : Prop := leadSignsRow.holds Try.pinned (OpenSpec.ofChange leadSignsSpec)

/-- ITS FALSE NEIGHBOUR: 'it returns false'. Refute it at one input. -/
def leadSignsWrong : ChangeSpec := { name := "leadSigns", fn := fun _ => fun
  | [d1, d2] => { results := [.lit (.bool false)], args := [d1, d2] }
  | _ => none }
def LeadSignsWrongFalsely : Prop := leadSignsRow.holds Try.pinned (OpenSpec.ofChange leadSignsWrong)

/-- 'vernierlaw01.LeadShows': WHATEVER THE INPUT: true; the input reads as it did. -/
def leadShowsSpec : ChangeSpec := { name := "leadShows", fn := fun _ => fun
  | [d1, d2] => { results := [.lit (.bool true)], args := [d1, d2] }
  | _ => none }
def leadShowsRow : OpenClaim := { program := "ytldoinokiipidaa", sum := "e8ec42cd19bd5d9e93cf975d65e748fa9732a476bd155c8db4abe5ea65ba36e2", func := "vernier/vernierlaw01.LeadShows", spec := "leadShows", apart := false }
def LeadShowsSaid : Prop := leadShowsRow.holds Try.pinned (OpenSpec.ofChange leadShowsSpec)

/-- ITS FALSE NEIGHBOUR: 'it returns false'. Refute it at one input. -/
def leadShowsWrong : ChangeSpec := { name := "leadShows", fn := fun _ => fun
  | [d1, d2] => { results := [.lit (.bool false)], args := [d1, d2] }
  | _ => none }
def LeadShowsWrongFalsely : Prop := leadShowsRow.holds Try.pinned (OpenSpec.ofChange leadShowsWrong)

/- THE SECOND FORM. 'bulk': how many values and letters a reading holds, each counted each time it is reached (what is shared counts as often as it is met; a slice's spare places count too). A statement '..UptoSaid' is the law's where the arguments, and the package variables that the reading takes, are together of bulk at most 1048576: NARROWER than '..Said'. Prove '..Said' where nothing that the law and all that it calls make is longer than what came in: it says more and counts as full. Else prove '..UptoSaid'. A law counts once. -/
mutual
def uptoBulk {H : Type} : DataW H → Nat
  | .lit (.string bytes) => bytes.length + 1
  | .lit _ => 1
  | .nil => 1
  | .ptr d => uptoBulk d + 1
  | .slice elems spare => uptoBulkAll elems + uptoBulkAll spare + 1
  | .agg parts => uptoBulkAll parts + 1
  | .iface _ d => uptoBulk d + 1
  | .map entries => uptoBulkEntries entries + 1
  | .held _ => 1
def uptoBulkAll {H : Type} : List (DataW H) → Nat
  | [] => 0
  | d :: r => uptoBulk d + uptoBulkAll r
def uptoBulkEntries {H : Type} : List (Lit × DataW H) → Nat
  | [] => 0
  | x :: r => uptoBulkEntry x + uptoBulkEntries r
def uptoBulkEntry {H : Type} : Lit × DataW H → Nat
  | (.string bytes, d) => bytes.length + uptoBulk d + 1
  | (_, d) => uptoBulk d + 1
 end
def uptoSmall : (H : Type) → List (DataW H) → Bool := fun _ ds => decide (uptoBulkAll ds ≤ 1048576)
def OpenSpec.upto (s : _root_.Go.ChangeSpec) : _root_.Go.OpenSpec := { _root_.Go.OpenSpec.ofChange s with cond := some uptoSmall }

/-- 'vernierlaw01.LeadRuns', WHERE WHAT IT READS IS OF BULK AT MOST 1048576: true; the input reads as it did. -/
def leadRunsUptoRow : OpenClaim := { program := "ytldoinokiipidaa", sum := "e8ec42cd19bd5d9e93cf975d65e748fa9732a476bd155c8db4abe5ea65ba36e2", func := "vernier/vernierlaw01.LeadRuns", spec := "leadRuns", apart := false, narrowed := true }
def LeadRunsUptoSaid : Prop := leadRunsUptoRow.holds Try.pinned (OpenSpec.upto leadRunsSpec)

/-- 'vernierlaw01.LeadFields', WHERE WHAT IT READS IS OF BULK AT MOST 1048576: true; the input reads as it did. -/
def leadFieldsUptoRow : OpenClaim := { program := "ytldoinokiipidaa", sum := "e8ec42cd19bd5d9e93cf975d65e748fa9732a476bd155c8db4abe5ea65ba36e2", func := "vernier/vernierlaw01.LeadFields", spec := "leadFields", apart := false, narrowed := true }
def LeadFieldsUptoSaid : Prop := leadFieldsUptoRow.holds Try.pinned (OpenSpec.upto leadFieldsSpec)

/-- 'vernierlaw01.LeadPuts', WHERE WHAT IT READS IS OF BULK AT MOST 1048576: true; the input reads as it did. -/
def leadPutsUptoRow : OpenClaim := { program := "ytldoinokiipidaa", sum := "e8ec42cd19bd5d9e93cf975d65e748fa9732a476bd155c8db4abe5ea65ba36e2", func := "vernier/vernierlaw01.LeadPuts", spec := "leadPuts", apart := false, narrowed := true }
def LeadPutsUptoSaid : Prop := leadPutsUptoRow.holds Try.pinned (OpenSpec.upto leadPutsSpec)

/-- 'vernierlaw01.LeadSigns', WHERE WHAT IT READS IS OF BULK AT MOST 1048576: true; the input reads as it did. -/
def leadSignsUptoRow : OpenClaim := { program := "ytldoinokiipidaa", sum := "e8ec42cd19bd5d9e93cf975d65e748fa9732a476bd155c8db4abe5ea65ba36e2", func := "vernier/vernierlaw01.LeadSigns", spec := "leadSigns", apart := false, narrowed := true }
def LeadSignsUptoSaid : Prop := leadSignsUptoRow.holds Try.pinned (OpenSpec.upto leadSignsSpec)

/-- 'vernierlaw01.LeadShows', WHERE WHAT IT READS IS OF BULK AT MOST 1048576: true; the input reads as it did. -/
def leadShowsUptoRow : OpenClaim := { program := "ytldoinokiipidaa", sum := "e8ec42cd19bd5d9e93cf975d65e748fa9732a476bd155c8db4abe5ea65ba36e2", func := "vernier/vernierlaw01.LeadShows", spec := "leadShows", apart := false, narrowed := true }
def LeadShowsUptoSaid : Prop := leadShowsUptoRow.holds Try.pinned (OpenSpec.upto leadShowsSpec)

end Rows
end Go.Proofs.Ytldoinokiipidaa
