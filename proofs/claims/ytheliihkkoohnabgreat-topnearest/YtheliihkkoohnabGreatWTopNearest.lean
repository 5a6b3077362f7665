import Derived.Test.YtheliihkkoohnabGreatJoin10
namespace Go.Proofs.YtheliihkkoohnabGreat
open Go.ChangeShapes Go.WideShapes Go.ChangeAt Go.RowKit
set_option linter.unusedVariables false
set_option linter.unusedSimpArgs false
set_option maxRecDepth 100000

/-! ### what is told, of each operation -/
theorem blen_sumI {S T : Int} {k : Nat} (h : blen S.natAbs ≤ k) (h' : blen T.natAbs ≤ k) : blen (S + T).natAbs ≤ k + 1 := by
  refine Nat.le_trans (blen_mono (Int.natAbs_add_le S T)) (blen_le.2 ?_)
  have a := blen_le.1 h
  have b := blen_le.1 h'
  rw [Nat.pow_succ]; omega
theorem blen_mulI {S T : Int} {k l : Nat} (h : blen S.natAbs ≤ k) (h' : blen T.natAbs ≤ l) : blen (S * T).natAbs ≤ k + l := by
  rw [Int.natAbs_mul]; exact blen_mul' _ _ h h'
theorem dn_blen {T e : Int} {neg : Bool} {M : Nat} {E : Int} (h : Dn T e neg M E) : blen M ≤ blen T.natAbs := by
  obtain ⟨j, _, b⟩ := h
  have hab : T.natAbs = M * 2 ^ j := by rw [b, ← sg_mul]; exact sg_abs _ _
  rw [hab]
  exact blen_mono (Nat.le_mul_of_pos_right _ (Nat.pow_pos (by decide)))
theorem told_plain {n Q : Nat} {o : Int} {yb : Bool} {G : Nat} {H : Int} {nv : Bool} {M : Nat} {E T e : Int} (hn : Wd n) (h3 : o ≠ 3) (h4 : o ≠ 4) (hd : Dn T e nv M E) (hE : -2000 ≤ E ∧ E ≤ 2000) (hT : blen T.natAbs ≤ 1300) (hQ : Q = patI n T e) :
    ToldO n Q o yb G H nv M E := by
  have hM : blen M ≤ 1300 := Nat.le_trans (dn_blen hd) hT
  refine ⟨hE, hM, fun h => by rw [hQ]; unfold patI; rw [if_pos (dn_zero hd h)], fun h => ?_⟩
  obtain ⟨a, b, c⟩ := mgI_dn (n := n) hd h
  refine ⟨mgI n M E false, ?_, mgI_range E false hn h, ?_⟩
  · rw [hQ]
    unfold patI sgO
    rw [if_neg c, if_neg h3, a]
    congr 1
    cases nv
    · exact decide_eq_false (fun hh => by have := b.1 hh; cases this)
    · exact decide_eq_true (b.2 rfl)
  · have hs := sides_plain hn h hE (show blen M ≤ 10000 by omega)
    unfold SidesO
    simp only [cmpO, if_neg h3, if_neg h4]
    exact hs
theorem told_div {n a b : Nat} (hn : Wd n) (ha : a < 2 ^ 64) (hb : b < 2 ^ 64) (na : vK n a ≠ 2) (kb : vK n b = 1) :
    ToldO n (patQ n a b) 3 (vB n b) (vM n b) (vE n b) (vB n a) (vM n a) (vE n a) := by
  have o1 := ok_v n a hn ha
  refine ⟨⟨o1.2.1, o1.2.2⟩, o1.1, fun h => ?_, fun h => ?_⟩
  · have k0 : vK n a = 0 := by
      rcases v_kinds n a hn with ⟨c, _⟩ | c | ⟨c, _⟩
      · exact c
      · obtain ⟨_, _, _, _, _, _, wd, _, _⟩ := v_real n a hn ha c
        have := wd.top
        unfold vM at h; rw [if_pos c] at h; omega
      · exact absurd c na
    unfold patQ
    rw [if_neg (by rw [k0, kb]; decide), if_pos k0]
  · have k1 : vK n a = 1 := by
      unfold vM at h
      by_cases c : vK n a = 1
      · exact c
      · rw [if_neg c] at h; exact absurd rfl h
    refine ⟨qmag n a b, ?_, qmag_range n a b hn ha hb k1 kb, ?_⟩
    · unfold patQ qmag sgO
      rw [if_neg (by rw [k1, kb]; decide), if_neg (by rw [k1]; decide), if_pos rfl]
    · have hs := sides_div hn ha hb k1 kb
      unfold SidesO cmpO vM vE
      simp only [if_pos k1, if_pos kb, if_pos (show (3 : Int) = 3 from rfl)]
      exact hs
theorem told_root {n a : Nat} (hn : Wd n) (ha : a < 2 ^ 64) (na : vK n a ≠ 2) (hB : vB n a = false) :
    ToldO n (patT2 n a) 4 (vB n 0) (vM n 0) (vE n 0) (vB n a) (vM n a) (vE n a) := by
  have o1 := ok_v n a hn ha
  refine ⟨⟨o1.2.1, o1.2.2⟩, o1.1, fun h => ?_, fun h => ?_⟩
  · have k0 : vK n a = 0 := by
      rcases v_kinds n a hn with ⟨c, _⟩ | c | ⟨c, _⟩
      · exact c
      · obtain ⟨_, _, _, _, _, _, wd, _, _⟩ := v_real n a hn ha c
        have := wd.top
        unfold vM at h; rw [if_pos c] at h; omega
      · exact absurd c na
    unfold patT2
    rw [if_neg (by rw [k0, hB]; decide), if_pos k0]
  · have k1 : vK n a = 1 := by
      unfold vM at h
      by_cases c : vK n a = 1
      · exact c
      · rw [if_neg c] at h; exact absurd rfl h
    obtain ⟨_, _, _, _, _, _, wd, _, _⟩ := v_real n a hn ha k1
    refine ⟨mgT n (vS n a) (manX (vF n a) 0), ?_, mgT_range _ hn wd.mant, ?_⟩
    · unfold patT2 sgO
      rw [if_neg (by rw [k1, hB]; decide), if_neg (by rw [k1]; decide), if_neg (by decide), hB]
      rfl
    · have hs := sides_root hn ha k1 _ rfl
      unfold SidesO cmpO vM vE
      simp only [if_pos k1, if_neg (show ¬ (4 : Int) = 3 by decide), if_pos (show (4 : Int) = 4 from rfl)]
      exact hs
theorem not_nar {n a b c : Nat} {o : Int} (h : ¬ NarO n a b c o) : vK n a ≠ 2 ∧ vK n b ≠ 2 ∧ vK n c ≠ 2 := ⟨fun c => h (.inl c), fun c => h (.inr (.inl c)), fun c => h (.inr (.inr (.inl c)))⟩
/-! ### the law -/
theorem near_no (n : Int) (op o : Int) (a b c : Nat) (hn : isW n = false)
    (kp : ∀ w, Calls Tryz.prog 4 #[.int .i64 op, .int .i64 6] w fun e w' => e = .returned (.int .i64 o) ∧ w' = w)
    (kd : ∀ w, Calls Tryz.prog 5 #[.int .i64 n, .int .i64 o, .int .u64 a, .int .u64 b, .int .u64 c] w fun e w' => e = .returned (.tuple #[.int .u64 0, codeV 2]) ∧ Below w.heap.size w w')
    (w : World) :
    Calls Tryz.prog 3 #[.int .i64 n, .int .i64 op, .int .u64 a, .int .u64 b, .int .u64 c] w fun e w' => e = .returned (.bool true) ∧ Below w.heap.size w w' := by
  have he := fun w a b => Lib.run_eql_iface_int (P := Tryz.prog) w (t := 25) (tx := 29) (k := .i64) a b Tryz.underlying25 (by kernel_rfl) Tryz.underlying29
  have kis := is_width n
  rw [hn] at kis
  unfold codeV at *
  clear hn
  refine cps fun Q hQ => ?_
  go_enter Tryz.func3, Tryz.ntmps3
  go_wp2_with (first
    | (go_at_call 4; go_must (refine (kp _).mono ?_); rintro e wx ⟨rfl, hwx⟩; rw [hwx]; clear hwx wx)
    | (go_at_call 5; go_must (refine (kd _).mono ?_); rintro e w1 ⟨rfl, hb1⟩; have HB1 : Hid (Below _ _ _) := hb1; clear hb1)
    | (go_at_call 6; go_must (refine (kis _).mono ?_); rintro e wx ⟨rfl, hwx⟩; rw [hwx]; clear hwx wx))
  all_goals exact hQ.out _ _ ⟨by first | rfl | simp, HB1.out⟩
theorem topNearest_walk (n op a b c : Int) (wn : (Lit.int .i64 n).wf = true) (wo : (Lit.int .i64 op).wf = true) (wa : (Lit.int .u64 a).wf = true) (wb : (Lit.int .u64 b).wf = true) (wc : (Lit.int .u64 c).wf = true) (w : World) :
    Calls Tryz.prog 3 #[.int .i64 n, .int .i64 op, .int .u64 a, .int .u64 b, .int .u64 c] w fun e w' => e = .returned (.bool true) ∧ Below w.heap.size w w' := by
  obtain ⟨a, rfl, ha⟩ := nat_of_u64 wa
  obtain ⟨b, rfl, hb⟩ := nat_of_u64 wb
  obtain ⟨c, rfl, hc⟩ := nat_of_u64 wc
  obtain ⟨o, h0, h6, kp⟩ := pick_any op wo w
  have ho : o = 0 ∨ o = 1 ∨ o = 2 ∨ o = 3 ∨ o = 4 ∨ o = 5 := by omega
  cases hn : isW n
  · rcases ho with rfl | rfl | rfl | rfl | rfl | rfl
    · exact near_no n op _ a b c hn kp (vdone0_no n a b c hn) w
    · exact near_no n op _ a b c hn kp (vdone1_no n a b c hn) w
    · exact near_no n op _ a b c hn kp (vdone2_no n a b c hn) w
    · exact near_no n op _ a b c hn kp (vdone3_no n a b c hn) w
    · exact near_no n op _ a b c hn kp (vdone4_no n a b c hn) w
    · exact near_no n op _ a b c hn kp (vdone5_no n a b c hn) w
  · obtain ⟨m, rfl, hm⟩ := isW_yes hn
    have oa := ok_v m a hm ha
    have ob := ok_v m b hm hb
    have oc := ok_v m c hm hc
    have pa := ok_v2 m a hm ha
    have pb := ok_v2 m b hm hb
    have ba := val_blen m a hm ha
    have bb := val_blen m b hm hb
    have bc := val_blen m c hm hc
    have z0 : vK m 0 ≠ 2 := by rw [vK_zero]; decide
    rcases ho with rfl | rfl | rfl | rfl | rfl | rfl
    · refine near_any m a b c b 0 (patS m a b) op 0 hm ha hb hc (.inr ⟨by decide, rfl⟩) (.inl ⟨by decide, rfl⟩) kp (vdone0_ok m a b c hm ha hb hc) ?_ ?_ w
      · rintro (h | h | h | ⟨h, _⟩ | ⟨h, _⟩)
        · unfold patS; rw [if_pos (.inl h)]
        · unfold patS; rw [if_pos (.inr h)]
        · exact absurd h z0
        · exact absurd h (by decide)
        · exact absurd h (by decide)
      · intro h v1 v2 v3 w r1 r2 r3
        obtain ⟨na, nb, _⟩ := not_nar h
        refine (vexact_add _ v1 _ _ _ v2 _ _ _ v3 _ _ w r1 r2 r3 oa ob (val_dn m a hm ha) (val_dn m b hm hb)).mono ?_
        rintro e w' ⟨nv, v, M, E, rfl, k1, k2, k3, k4⟩
        exact ⟨nv, v, M, E, rfl, k1, told_plain hm (by decide) (by decide) k2 k3 (Nat.le_trans (blen_sumI ba bb) (by decide)) (by unfold patS; rw [if_neg (by rintro (c | c); exact na c; exact nb c)]), k4⟩
    · have hno := negO_lt64 m b hm
      refine near_any m a b c b 0 (patS m a (negO m b)) op 1 hm ha hb hc (.inr ⟨by decide, rfl⟩) (.inl ⟨by decide, rfl⟩) kp (vdone1_ok m a b c hm ha hb hc) ?_ ?_ w
      · rintro (h | h | h | ⟨h, _⟩ | ⟨h, _⟩)
        · unfold patS; rw [if_pos (.inl h)]
        · unfold patS; rw [if_pos (.inr (by rw [(val_negO m b hm hb).1]; exact h))]
        · exact absurd h z0
        · exact absurd h (by decide)
        · exact absurd h (by decide)
      · intro h v1 v2 v3 w r1 r2 r3
        obtain ⟨na, nb, _⟩ := not_nar h
        refine (vexact_sub _ v1 _ _ _ v2 _ _ _ v3 _ _ w r1 r2 r3 oa ob (val_dn m a hm ha) (val_dn m b hm hb)).mono ?_
        rintro e w' ⟨nv, v, M, E, rfl, k1, k2, k3, k4⟩
        exact ⟨nv, v, M, E, rfl, k1, told_plain hm (by decide) (by decide) k2 k3 (Nat.le_trans (blen_sumI ba (by rw [Int.natAbs_neg]; exact bb)) (by decide)) (by obtain ⟨e1, e2⟩ := val_negO m b hm hb; unfold patS; rw [e1, e2, if_neg (by rintro (c | c); exact na c; exact nb c)]), k4⟩
    · refine near_any m a b c b 0 (patP m a b) op 2 hm ha hb hc (.inr ⟨by decide, rfl⟩) (.inl ⟨by decide, rfl⟩) kp (vdone2_ok m a b c hm ha hb hc) ?_ ?_ w
      · rintro (h | h | h | ⟨h, _⟩ | ⟨h, _⟩)
        · unfold patP; rw [if_pos (.inl h)]
        · unfold patP; rw [if_pos (.inr h)]
        · exact absurd h z0
        · exact absurd h (by decide)
        · exact absurd h (by decide)
      · intro h v1 v2 v3 w r1 r2 r3
        obtain ⟨na, nb, _⟩ := not_nar h
        refine (vexact_mul _ v1 _ _ _ v2 _ _ _ v3 _ _ w r1 r2 r3 oa ob (by omega) (by omega) (val_dn m a hm ha) (val_dn m b hm hb)).mono ?_
        rintro e w' ⟨nv, v, M, E, rfl, k1, k2, k3, k4⟩
        exact ⟨nv, v, M, E, rfl, k1, told_plain hm (by decide) (by decide) k2 k3 (Nat.le_trans (blen_mulI ba bb) (by decide)) (by unfold patP; rw [if_neg (by rintro (c | c); exact na c; exact nb c)]), k4⟩
    · refine near_any m a b c b 0 (patQ m a b) op 3 hm ha hb hc (.inr ⟨by decide, rfl⟩) (.inl ⟨by decide, rfl⟩) kp (vdone3_ok m a b c hm ha hb hc) ?_ ?_ w
      · rintro (h | h | h | ⟨_, h⟩ | ⟨h, _⟩)
        · unfold patQ; rw [if_pos (.inl h)]
        · unfold patQ; rw [if_pos (.inr (by rw [h]; decide))]
        · exact absurd h z0
        · unfold patQ; rw [if_pos (.inr (by rw [h]; decide))]
        · exact absurd h (by decide)
      · intro h v1 v2 v3 w r1 r2 r3
        obtain ⟨na, nb, _⟩ := not_nar h
        have nb0 : vK m b ≠ 0 := fun c => h (.inr (.inr (.inr (.inl ⟨rfl, c⟩))))
        have kb : vK m b = 1 := by rcases v_kinds m b hm with ⟨c, _⟩ | c | ⟨c, _⟩; exact absurd c nb0; exact c; exact absurd c nb
        refine (vexact_div _ v1 _ _ _ v2 _ _ _ v3 _ _ w r1 r2 r3).mono ?_
        rintro e w' ⟨rfl, k1, k4⟩
        exact ⟨_, v1, _, _, rfl, k1, told_div hm ha hb na kb, k4⟩
    · refine near_any m a b c 0 0 (patT2 m a) op 4 hm ha hb hc (.inl ⟨rfl, rfl⟩) (.inl ⟨by decide, rfl⟩) kp (vdone4_ok m a b c hm ha hb hc) ?_ ?_ w
      · rintro (h | h | h | ⟨h, _⟩ | ⟨_, h⟩)
        · unfold patT2; rw [if_pos (.inl h)]
        · exact absurd h z0
        · exact absurd h z0
        · exact absurd h (by decide)
        · unfold patT2; rw [if_pos (.inr h)]
      · intro h v1 v2 v3 w r1 r2 r3
        obtain ⟨na, _, _⟩ := not_nar h
        have hB : vB m a = false := by
          cases hB : vB m a
          · rfl
          · exact absurd (.inr (.inr (.inr (.inr ⟨rfl, hB⟩)))) h
        refine (vexact_root _ v1 _ _ _ v2 _ _ _ v3 _ _ w r1 r2 r3).mono ?_
        rintro e w' ⟨rfl, k1, k4⟩
        exact ⟨_, v1, _, _, rfl, k1, told_root hm ha na hB, k4⟩
    · refine near_any m a b c b c (patF m a b c) op 5 hm ha hb hc (.inr ⟨by decide, rfl⟩) (.inr ⟨rfl, rfl⟩) kp (vdone5_ok m a b c hm ha hb hc) ?_ ?_ w
      · rintro (h | h | h | ⟨h, _⟩ | ⟨h, _⟩)
        · unfold patF; rw [if_pos (.inl h)]
        · unfold patF; rw [if_pos (.inr (.inl h))]
        · unfold patF; rw [if_pos (.inr (.inr h))]
        · exact absurd h (by decide)
        · exact absurd h (by decide)
      · intro h v1 v2 v3 w r1 r2 r3
        obtain ⟨na, nb, nc⟩ := not_nar h
        refine (vexact_fma _ v1 _ _ _ v2 _ _ _ v3 _ _ w r1 r2 r3 oa ob oc pa.1 pb.1 pa.2 pb.2 (val_dn m a hm ha) (val_dn m b hm hb) (val_dn2 m c hm hc)).mono ?_
        rintro e w' ⟨nv, v, M, E, rfl, k1, k2, k3, k4⟩
        have hpw : ∀ z : Nat, blen ((2 ^ z : Nat) : Int).natAbs ≤ z + 1 := fun z => by rw [Int.natAbs_natCast]; exact blen_le.2 (Nat.pow_lt_pow_right (by decide) (by omega))
        have h375 := hpw 375
        exact ⟨nv, v, M, E, rfl, k1, told_plain hm (by decide) (by decide) k2 k3 (Nat.le_trans (blen_sumI (k := 1248) (blen_mulI ba bb) (Nat.le_trans (blen_mulI bc h375) (by decide))) (by decide)) (by unfold patF; rw [if_neg (by rintro (c | c | c); exact na c; exact nb c; exact nc c)]), k4⟩
end Go.Proofs.YtheliihkkoohnabGreat
