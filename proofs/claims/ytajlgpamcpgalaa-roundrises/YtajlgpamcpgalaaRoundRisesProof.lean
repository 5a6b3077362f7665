import Derived.Test.YtajlgpamcpgalaaRows
import Derived.Test.YtajlgpamcpgalaaWRoundRises
import Derived.WalkKit
import Derived.ProofKit
import Derived.OpenShut
import Derived.ShutString
import Derived.ChangeOld
import Derived.Below
import Derived.Lib.SmallJoins
import Derived.Test.YtajlgpamcpgalaaJoin4
/- For every input the Go function RoundRises of the law returns true, and its arguments read behind the call as they read before. No condition. -/
namespace Go.Proofs.Ytajlgpamcpgalaa.roundRises
open Go.ChangeShapes Go.WideShapes Go.ChangeAt Go.RowKit
open Go.ChangeMaps (open_string shut_string)
set_option linter.unusedVariables false

theorem own : ownKnob Try.prog.godebug = none := by kernel_rfl

set_option maxRecDepth 100000 in
theorem lifted (os : Os) (started : os.Started) (H : Type) (enc : TypeId × Value → H) :
    ReturnsInHanded {} Try.checked os 8 .any (Rows.roundRisesSpec.pre6 enc Try.prog Try.f8 Rows.roundRisesRow.domain false) (Rows.roundRisesSpec.post enc Try.prog Try.f8 false true false false) := by
  refine returnsInHanded_of_change (C := Try.checked) own started (by kernel_rfl) Try.func8
    (ChangeSpec.witness6 (enc := enc) (C := Try.checked) false ⟨#[], #[.int .i64 0, .agg #[.int .i64 0, .bool false, .int .i64 0, .int .u64 0, .int .u64 0, .bool false], .agg #[.int .i64 0, .bool false, .int .i64 0, .int .u64 0, .int .u64 0, .bool false]], []⟩ 8 (by kernel_rfl) (by kernel_rfl) (by kernel_rfl) (by kernel_rfl)) ?_
  intro W base args ds gs before hval0 hW hcnd _
  have hval : ∀ (j : Nat) t v, Try.f8.params[j]? = some t → args[j]? = some v → Value.okWide Try.prog W .any base t v := hval0
  have hW' := hW
  obtain ⟨p, q, hA0, hV, rfl, hfz, hnd⟩ := hW
  have hA : DataW.TrodAll enc Try.prog W 0 (fun _ => true) true Try.f8.params.toList args.toList ds p := hA0
  rw [Try.params8] at hA hval
  obtain ⟨v0, vs0, d0, ds0, p0, q0, hargs, rfl, rfl, h0, r0⟩ := trodAll_cons hA
  obtain ⟨v1, vs1, d1, ds1, p1, q1, rfl, rfl, rfl, h1, r1⟩ := trodAll_cons r0
  obtain ⟨v2, vs2, d2, ds2, p2, q2, rfl, rfl, rfl, h2, r2⟩ := trodAll_cons r1
  obtain ⟨rfl, rfl, rfl⟩ := trodAll_nil r2
  obtain rfl : args = #[v0, v1, v2] := by cases args; simp_all
  obtain ⟨rfl, rfl⟩ := trodVars_none hV
  obtain ⟨a0, rfl, rfl, rfl, w0⟩ := open_int Try.underlying3 (hval 0 3 v0 rfl rfl) h0
  obtain ⟨c1_0, c1_1, c1_2, c1_3, c1_4, c1_5, y1_0, y1_1, y1_2, y1_3, y1_4, y1_5, m1, rfl, rfl, rfl, hy1_0, hy1_1, hy1_2, hy1_3, hy1_4, hy1_5⟩ := Go.Proofs.Ytajlgpamcpgalaa.open_agg6 Try.underlying25 (by kernel_rfl) (by kernel_rfl) (hval 1 25 v1 rfl rfl) h1
  obtain ⟨a1_0, e1_0, rfl, w1_0⟩ := DataW.trod_int Try.underlying3 hy1_0
  simp at e1_0
  subst e1_0
  obtain ⟨a1_1, e1_1, rfl⟩ := DataW.trod_bool Try.underlying4 hy1_1
  simp at e1_1
  subst e1_1
  obtain ⟨a1_2, e1_2, rfl, w1_2⟩ := DataW.trod_int Try.underlying3 hy1_2
  simp at e1_2
  subst e1_2
  obtain ⟨a1_3, e1_3, rfl, w1_3⟩ := DataW.trod_int Try.underlying22 hy1_3
  simp at e1_3
  subst e1_3
  obtain ⟨a1_4, e1_4, rfl, w1_4⟩ := DataW.trod_int Try.underlying22 hy1_4
  simp at e1_4
  subst e1_4
  obtain ⟨a1_5, e1_5, rfl⟩ := DataW.trod_bool Try.underlying4 hy1_5
  simp at e1_5
  subst e1_5
  have sh1 : ∀ (W' : World) (sp : Nat → Bool), DataW.Trod enc Try.prog W' 0 sp true 25 (.agg #[.int .i64 a1_0, .bool a1_1, .int .i64 a1_2, .int .u64 a1_3, .int .u64 a1_4, .bool a1_5]) (.agg [.lit (.int .i64 a1_0), .lit (.bool a1_1), .lit (.int .i64 a1_2), .lit (.int .u64 a1_3), .lit (.int .u64 a1_4), .lit (.bool a1_5)]) [] := fun W' sp => Go.Proofs.Ytajlgpamcpgalaa.shut_agg6 (y0 := (.lit (.int .i64 a1_0), [])) (y1 := (.lit (.bool a1_1), [])) (y2 := (.lit (.int .i64 a1_2), [])) (y3 := (.lit (.int .u64 a1_3), [])) (y4 := (.lit (.int .u64 a1_4), [])) (y5 := (.lit (.bool a1_5), [])) Try.underlying25 (by kernel_rfl) (by kernel_rfl) ⟨1, by simp [DataW.trod, Try.underlying3, w1_0]⟩ ⟨1, by simp [DataW.trod, Try.underlying4]⟩ ⟨1, by simp [DataW.trod, Try.underlying3, w1_2]⟩ ⟨1, by simp [DataW.trod, Try.underlying22, w1_3]⟩ ⟨1, by simp [DataW.trod, Try.underlying22, w1_4]⟩ ⟨1, by simp [DataW.trod, Try.underlying4]⟩
  obtain ⟨c2_0, c2_1, c2_2, c2_3, c2_4, c2_5, y2_0, y2_1, y2_2, y2_3, y2_4, y2_5, m2, rfl, rfl, rfl, hy2_0, hy2_1, hy2_2, hy2_3, hy2_4, hy2_5⟩ := Go.Proofs.Ytajlgpamcpgalaa.open_agg6 Try.underlying25 (by kernel_rfl) (by kernel_rfl) (hval 2 25 v2 rfl rfl) h2
  obtain ⟨a2_0, e2_0, rfl, w2_0⟩ := DataW.trod_int Try.underlying3 hy2_0
  simp at e2_0
  subst e2_0
  obtain ⟨a2_1, e2_1, rfl⟩ := DataW.trod_bool Try.underlying4 hy2_1
  simp at e2_1
  subst e2_1
  obtain ⟨a2_2, e2_2, rfl, w2_2⟩ := DataW.trod_int Try.underlying3 hy2_2
  simp at e2_2
  subst e2_2
  obtain ⟨a2_3, e2_3, rfl, w2_3⟩ := DataW.trod_int Try.underlying22 hy2_3
  simp at e2_3
  subst e2_3
  obtain ⟨a2_4, e2_4, rfl, w2_4⟩ := DataW.trod_int Try.underlying22 hy2_4
  simp at e2_4
  subst e2_4
  obtain ⟨a2_5, e2_5, rfl⟩ := DataW.trod_bool Try.underlying4 hy2_5
  simp at e2_5
  subst e2_5
  have sh2 : ∀ (W' : World) (sp : Nat → Bool), DataW.Trod enc Try.prog W' 0 sp true 25 (.agg #[.int .i64 a2_0, .bool a2_1, .int .i64 a2_2, .int .u64 a2_3, .int .u64 a2_4, .bool a2_5]) (.agg [.lit (.int .i64 a2_0), .lit (.bool a2_1), .lit (.int .i64 a2_2), .lit (.int .u64 a2_3), .lit (.int .u64 a2_4), .lit (.bool a2_5)]) [] := fun W' sp => Go.Proofs.Ytajlgpamcpgalaa.shut_agg6 (y0 := (.lit (.int .i64 a2_0), [])) (y1 := (.lit (.bool a2_1), [])) (y2 := (.lit (.int .i64 a2_2), [])) (y3 := (.lit (.int .u64 a2_3), [])) (y4 := (.lit (.int .u64 a2_4), [])) (y5 := (.lit (.bool a2_5), [])) Try.underlying25 (by kernel_rfl) (by kernel_rfl) ⟨1, by simp [DataW.trod, Try.underlying3, w2_0]⟩ ⟨1, by simp [DataW.trod, Try.underlying4]⟩ ⟨1, by simp [DataW.trod, Try.underlying3, w2_2]⟩ ⟨1, by simp [DataW.trod, Try.underlying22, w2_3]⟩ ⟨1, by simp [DataW.trod, Try.underlying22, w2_4]⟩ ⟨1, by simp [DataW.trod, Try.underlying4]⟩
  clear hA0 hval0
  refine (roundRises_walk a0 a1_0 a1_1 a1_2 a1_3 a1_4 a1_5 a2_0 a2_1 a2_2 a2_3 a2_4 a2_5 w0 w1_0 w1_2 w1_3 w1_4 w2_0 w2_2 w2_3 w2_4 W).mono fun e W' ⟨he, bel⟩ => ?_
  subst he
  exact ⟨_, rfl, _, _, _, [], _, [], hW', trodAll_mk1 (shut_bool Try.underlying4 _), (trodAll_cons_mk (shut_int Try.underlying3 w0) (trodAll_cons_mk (sh1 _ _) (trodAll_cons_mk (sh2 _ _) trodAll_mk0))), rfl, bel.frame _, fun h => by cases h⟩

theorem over : Rows.roundRisesRow.holds Try.pinned (OpenSpec.ofChange Rows.roundRisesSpec) :=
  OpenClaim.holds_of_wide 8 Try.f8 rfl rfl rfl rfl rfl rfl rfl ⟨rfl, rfl, rfl, rfl, rfl⟩ rfl rfl rfl rfl rfl (by kernel_rfl) Try.func8 (by kernel_rfl)
    (of_decide_eq_true (by kernel_rfl)) (by unfold Func.isWrapper; first | (rw [if_pos (by decide +kernel)]; kernel_rfl) | (rw [if_neg (by decide +kernel)]; exact ⟨rfl, rfl⟩))
    (fun os started H enc _ => lifted os started H enc)

theorem proved : Rows.RoundRisesSaid := over
#print axioms proved
end Go.Proofs.Ytajlgpamcpgalaa.roundRises
