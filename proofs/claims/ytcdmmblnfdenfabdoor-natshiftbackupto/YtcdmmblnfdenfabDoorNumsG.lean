import Derived.Test.YtcdmmblnfdenfabDoorNumsE
import Derived.Laws.AppendOwnNone
namespace Go.Proofs.YtcdmmblnfdenfabDoor
open Go.ChangeShapes Go.WideShapes Go.ChangeAt Go.RowKit
set_option linter.unusedVariables false
set_option maxRecDepth 100000

/-- the digits from i on, noughts below -/
def hiz (n i m : Nat) : List Nat := (List.range m).map fun j => if i ≤ j then top n j % 16777216 else 0
theorem hiz_length (n i m : Nat) : (hiz n i m).length = m := by simp [hiz]
theorem hiz_start (n m : Nat) : hiz n m m = List.replicate m 0 := by
  apply List.ext_getElem
  · simp [hiz]
  · intro j h1 h2
    have : j < m := by simpa [hiz] using h1
    simp [hiz]; omega
theorem hiz_zero (n m : Nat) : hiz n 0 m = low n m := by simp [hiz, low]
theorem hiz_set (n i m : Nat) (h : i < m) : (hiz n (i + 1) m).set i (top n i % 16777216) = hiz n i m := by
  apply List.ext_getElem
  · simp [hiz]
  · intro j h1 h2
    have hj : j < m := by simpa [hiz] using h2
    rw [List.getElem_set]
    by_cases e : i = j
    · subst e; simp [hiz]
    · rw [if_neg e]
      simp only [hiz, List.getElem_map, List.getElem_range]
      by_cases g : i ≤ j
      · rw [if_pos (by omega), if_pos g]
      · rw [if_neg (by omega), if_neg g]
theorem dig_push (r d : Nat) (hd : d < 16777216) : ∃ z, d :: dig r = dig (r * 16777216 + d) ++ List.replicate z 0 := by
  by_cases h : r * 16777216 + d = 0
  · have h1 : r = 0 := by omega
    have h2 : d = 0 := by omega
    subst h1 h2
    exact ⟨1, by simp [dig_zero]⟩
  · refine ⟨0, ?_⟩
    rw [dig_pos h, show (r * 16777216 + d) % 16777216 = d by omega, show (r * 16777216 + d) / 16777216 = r by omega]
    simp
/-- one step of the division from above -/
theorem div_step (a b i : Nat) (hb : 0 < b) :
    top (a / b) i % 16777216 = (top a (i + 1) % b * 16777216 + top a i % 16777216) / b ∧
    (top a (i + 1) % b * 16777216 + top a i % 16777216) % b = top a i % b ∧ top a (i + 1) % b * 16777216 + top a i % 16777216 < b * 16777216 := by
  have e : top a i = top a (i + 1) * 16777216 + top a i % 16777216 := by rw [top_succ]; omega
  have hd : top a i % 16777216 < 16777216 := Nat.mod_lt _ (by decide)
  rw [top_div]
  generalize top a i % 16777216 = d at *
  have hr := Nat.mod_lt (top a (i + 1)) hb
  have hN : top a (i + 1) % b * 16777216 + d < b * 16777216 := by
    have h := Nat.mul_le_mul_right 16777216 (Nat.succ_le_of_lt hr)
    rw [Nat.succ_mul] at h
    exact Nat.lt_of_lt_of_le (Nat.add_lt_add_left hd _) h
  have hq : (top a (i + 1) % b * 16777216 + d) / b < 16777216 := Nat.div_lt_of_lt_mul hN
  have h0 : top a i = b * (top a (i + 1) / b * 16777216) + (top a (i + 1) % b * 16777216 + d) := by
    have h1 : top a (i + 1) * 16777216 = (b * (top a (i + 1) / b) + top a (i + 1) % b) * 16777216 := by rw [Nat.div_add_mod]
    rw [e, h1, Nat.add_mul, Nat.mul_assoc]; omega
  refine ⟨?_, ?_, hN⟩
  · rw [h0, Nat.mul_add_div hb, Nat.add_comm, Nat.add_mul_mod_self_right, Nat.mod_eq_of_lt hq]
  · rw [h0, Nat.mul_add_mod]
theorem Row.other {w : World} {v u : Value} {l : List Nat} {g j : Nat} (h : Row w v l) (hne : v.ownBlock ≠ some g) : Row (w.setCell ⟨g, j, none⟩ u) v l := by
  obtain ⟨ao, c, rfl, hc, hl, h⟩ := h
  refine ⟨ao, c, rfl, hc, hl, ?_⟩
  rcases h with h | ⟨b, off, rfl, hlt, h⟩
  · exact .inl h
  · have hb : b ≠ g := fun e => hne (by rw [e]; rfl)
    refine .inr ⟨b, off, rfl, by simpa using hlt, fun i hi => ?_⟩
    rw [World.cell?_setCell_other w ⟨g, j, none⟩ ⟨b, off + i, none⟩ u (by intro e; exact hb (by injection e with e1; exact e1.symm)), h i hi]
theorem times_int (va : Value) (a q : Nat) (qq : Int) (hqq : qq = (q : Int)) (hq : q ≤ 16777216) (hS : dlen a ≤ 1099511627776) (w : World) (ha : Row w va (dig a)) :
    Calls Tryd.prog 29 #[va, .int .i64 qq] w fun e w' => ∃ v, e = .returned v ∧ Row w' v (dig (a * q)) ∧ Below w.heap.size w w' := by
  rw [hqq]; exact times_any va a q hq hS w ha
theorem owns_alloc {w : World} {base n sz : Nat} {e : TypeId} {v : Value} {xs : List Value} (h : w.ownsRow base e sz v n xs) (o : Obj) : (w.alloc o).ownsRow base e sz v n xs := h.alloc o
theorem bmore0 {a w : World} (h : Below a.heap.size a w) (o : Obj) : Below a.heap.size a (w.alloc o) := h.alloc h.size o
theorem bthen0 {a W w : World} (h : Below a.heap.size a W) (hb : Below W.heap.size W w) : Below a.heap.size a w := h.trans (hb.mono h.size)

theorem bdrewN' {B : Nat} {a W : World} (h : Below B a W) (q : Nat) : Below B a (W.drewN q) := below_drewN h q

set_option maxHeartbeats 4000000 in
theorem ndivmod_any (va vb : Value) (a b : Nat) (hb0 : 0 < b) (hA : dlen a ≤ 549755813888) (hB : dlen b ≤ 549755813888) (w : World) (ha : Row w va (dig a)) (hb : Row w vb (dig b)) :
    Calls Tryd.prog 36 #[va, vb] w fun e w' => ∃ v1 v2, e = .returned (.tuple #[v1, v2]) ∧ Row w' v1 (dig (a / b)) ∧ Row w' v2 (dig (a % b)) ∧ Below w.heap.size w w' := by
  refine cps fun Q hQ => ?_
  obtain ⟨aa, ca, rfl, h1, h2, hra⟩ := ha.reads
  have HB : Hid (Row w vb (dig b)) := hb
  clear ha hb
  obtain ⟨i0, hi, hz0, hz1, hz2⟩ := info_parts infoInt
  have hdn : ∀ n, n < b * 16777216 → dlen n ≤ 549755813889 := by
    intro n hn
    refine Nat.le_trans (dlen_le_of_lt (k := dlen b + 1) (Nat.lt_of_lt_of_le hn ?_)) (by omega)
    rw [Nat.pow_succ]
    exact Nat.mul_le_mul_right _ (Nat.le_of_lt (lt_of_dlen_le (Nat.le_refl _)))
  have HDN : Hid _ := hdn
  have HST : Hid (∀ i, _) := fun i => div_step a b i hb0
  clear hdn
  go_enter Tryd.func36, Tryd.ntmps36
  go_wp2_with (at_make; go_must (refine wpList_make_full _ rfl _ _ 31 rfl w.heap.size 3 i0 (.int .i64 0) 1 Tryd.underlying31 hi hz0 hz1 .i64 .i64 _ _ (dlen a) rfl rfl (by omega) (by omega) (by rw [hz2]; omega) (by unfold maxLen; omega) (Nat.le_refl _) ?_); intro w1 hown hg)
  rw [made_ints, ← hiz_start (a / b)] at hown
  have hb0' := (Below.refl w.heap.size w).grown hg (Nat.le_refl _) (fun k hk => by cases hk)
  have hs0 : w.heap.size < w1.heap.size := by have := hown.lt w.heap.size rfl; omega
  clear hg
  go_loopw [7, 8] (fun rv iv wr => ∃ (k r : Nat), k ≤ dlen a ∧ iv = .int .i64 ((k : Int) - 1) ∧ Hid (r = top a k % b) ∧ Row wr rv (dig r) ∧ wr.ownsRow w.heap.size 3 1 (.slice (some ⟨w.heap.size, 0, none⟩) (dlen a) (dlen a)) (dlen a) ((hiz (a / b) k (dlen a)).map enc) ∧ Below w.heap.size w wr) (fun _ iv _ => (intOf iv + 1).toNat)
  case atStart => exact ⟨dlen a, 0, Nat.le_refl _, by go_num, by show _ = _; rw [top_eq_zero (Nat.le_refl _), Nat.zero_mod], by rw [dig_zero]; exact row_nil _, hown, hb0'⟩
  case round =>
    obtain ⟨k, r, hk, rfl, hr, hrow, hown, hbel⟩ := hrel
    by_cases h0 : 0 < k
    · obtain ⟨i, rfl⟩ : ∃ i, k = i + 1 := ⟨k - 1, by omega⟩
      rw [show ((i + 1 : Nat) : Int) - 1 = (i : Int) by omega]
      obtain ⟨ba, oa, rfl, hba, hra⟩ := hra.resolve_left (by omega)
      have hcell := (hbel.cell (p := ⟨ba, oa + i, none⟩) hba).trans (hra i (by omega))
      obtain ⟨s1, s2, s3⟩ := HST.out i
      rw [← hr.out] at s1 s2 s3
      obtain ⟨d, hd⟩ : ∃ d, d = top a i % 16777216 := ⟨_, rfl⟩
      rw [← hd] at s1 s2 s3 hcell
      have bd : d ≤ 16777215 := by omega
      obtain ⟨N, hN⟩ : ∃ N, N = r * 16777216 + d := ⟨_, rfl⟩
      obtain ⟨z, hz⟩ := dig_push r d (by omega)
      rw [← hN] at s1 s2 s3 hz
      have hdN := HDN.out N s3
      have HS : Hid (top (a / b) i % 16777216 = N / b ∧ N % b = top a i % b ∧ N < b * 16777216) := ⟨s1, s2, s3⟩
      have HZ : Hid (d :: dig r = dig N ++ List.replicate z 0) := hz
      have HROW : Hid (Row wr _ (dig r)) := hrow
      have HOWN : Hid (wr.ownsRow _ _ _ _ _ _) := hown
      have hlit : (wr.alloc (.cells #[.int .i64 (d : Int)] 3)).ownsRow wr.heap.size 3 1 (.slice (some ⟨wr.heap.size, 0, none⟩) 1 1) 1 [.int .i64 (d : Int)] := World.ownsRow_lit wr #[.int .i64 (d : Int)] 1 (Nat.le_refl _) (by decide) rfl
      have hdr : dlen r ≤ 549755813888 := by
        refine Nat.le_trans (dlen_mono ?_) hB
        rw [hr.out]; exact Nat.le_of_lt (Nat.mod_lt _ hb0)
      obtain ⟨ar, cr, rfl, q1, q2, q3⟩ := hrow
      clear s1 s2 s3 hd hN hz hown
      rcases q3 with ⟨rfl, hnil, rfl⟩ | ⟨br, or_, rfl, hbr, hcr⟩
      · have hL : (dig r).length = 0 := by rw [hnil]; rfl
        have hz1 : d :: dig r = [d] := by rw [hnil]
        have hr1 : Row (wr.alloc (.cells #[.int .i64 (d : Int)] 3)) (.slice (some ⟨wr.heap.size, 0, none⟩) 1 1) (d :: dig r) := by rw [hz1]; exact row_own (l := [d]) hlit
        rw [hL]
        clear hz1 hL hnil
        go_wp2_with (first
          | (at_builtin; go_must (refine wpList_append_own_none rfl _ _ 31 rfl wr.heap.size 3 i0 1 Tryd.underlying31 hi _ _ _ rfl hlit rfl ?_))
          | (go_at_call 63; refine (cut_own _ _ N z HZ.out _ hr1).mono ?_; rintro e w' ⟨v3, rfl, hr3, hw, hv3⟩; rw [hw]; clear hw w'))
        have HNE : Hid (v3.ownBlock ≠ some w.heap.size) := by
          show _ ≠ _
          have g := (HOWN.out.lt w.heap.size rfl).2
          rw [hv3]
          intro e
          have e1 : wr.heap.size = w.heap.size := by simpa [Value.ownBlock] using e
          omega
        clear hv3
        have HB3 : Hid (Row (wr.alloc (.cells #[.int .i64 (d : Int)] 3)) _ (dig b)) := HB.out.below (bmore0 hbel _)
        have HR3 : Hid (Row (wr.alloc (.cells #[.int .i64 (d : Int)] 3)) v3 (dig N)) := hr3
        have HOW : Hid ((wr.alloc (.cells #[.int .i64 (d : Int)] 3)).ownsRow _ _ _ _ _ _) := (owns_alloc HOWN.out _)
        have HBW : Hid (Below w.heap.size w (wr.alloc (.cells #[.int .i64 (d : Int)] 3))) := (bmore0 hbel _)
        have hsW := HBW.out.size
        clear hr3
        go_loopw [10, 11] (fun lv hv wr2 => ∃ (lo hi : Nat), lo < hi ∧ hi ≤ 16777216 ∧ Hid (b * lo ≤ N) ∧ Hid (N < b * hi) ∧ lv = .int .i64 lo ∧ hv = .int .i64 hi ∧ ∃ q, Below (wr.alloc (.cells #[.int .i64 (d : Int)] 3)).heap.size (wr.alloc (.cells #[.int .i64 (d : Int)] 3)) wr2) (fun lv hv _ => (intOf hv - intOf lv).toNat)
        case atStart => exact ⟨0, 16777216, by decide, by decide, (by show _ ≤ _; omega), HS.out.2.2, rfl, rfl, 0, Below.refl _ _⟩
        case round =>
          obtain ⟨lo, hi', hlt, hhi, hlo, hup, rfl, rfl, q', hbel2⟩ := hrel
          by_cases hgo : lo + 1 < hi'
          · obtain ⟨mid, hmid⟩ : ∃ m, m = (lo + hi') / 2 := ⟨_, rfl⟩
            have hmi : ((lo : Int) + hi') / 2 = (mid : Int) := by omega
            have m1 : lo < mid := by omega
            have m2 : mid < hi' := by omega
            obtain ⟨x, hx⟩ : ∃ x, x = cmpN (b * mid) N := ⟨_, rfl⟩
            have hxx : (x ≤ 0 ∧ b * mid ≤ N) ∨ (0 < x ∧ N < b * mid) := by
              rw [hx]
              rcases Nat.lt_trichotomy (b * mid) N with g | g | g
              · rw [cmpN_lt g]; exact .inl ⟨by decide, by omega⟩
              · rw [g, cmpN_eq]; exact .inl ⟨by decide, Nat.le_refl _⟩
              · rw [cmpN_gt g]; exact .inr ⟨by decide, g⟩
            have k5 := fun va vb w h1 h2 => ncmp_any va vb (b * mid) N w h1 h2
            rw [← hx] at k5
            have hS2 : dlen b ≤ 1099511627776 := by omega
            clear hmid hx
            have HR4 := HR3.out.below hbel2
            have HB4 := HB3.out.below hbel2
            rcases hxx with ⟨hx1, hx2⟩ | ⟨hx1, hx2⟩
            all_goals
              have HX2 : Hid _ := hx2
              clear hx2
              go_wp2_with (first
                | (go_at_call 29; refine (times_any _ b mid (by omega) hS2 _ HB4).mono ?_; rintro e w4 ⟨v4, rfl, hr4, hb4⟩)
                | (go_at_call 64; refine (k5 _ _ _ hr4 (HR4.below hb4)).mono ?_; rintro e w5 ⟨rfl, q5, rfl⟩))
              go_roundw
              case measure => simp [intOf]; omega
              case rel => first
                | exact ⟨mid, hi', by omega, by omega, HX2.out, hup, rfl, rfl, 0, bdrewN' (hbel2.trans (hb4.mono hbel2.size)) _⟩
                | exact ⟨lo, mid, by omega, by omega, hlo, HX2.out, rfl, rfl, 0, bdrewN' (hbel2.trans (hb4.mono hbel2.size)) _⟩
          · have hlo' : N / b = lo := by
              have g1 := hlo.out
              have g2 := hup.out
              have g3 : hi' = lo + 1 := by omega
              rw [g3, Nat.mul_comm] at g2
              rw [Nat.mul_comm] at g1
              exact Nat.div_eq_of_lt_le g1 g2
            have hS := HS.out
            rw [hlo'] at hS
            have hown2 := owns_below HOW.out hbel2
            obtain ⟨y, hy⟩ : ∃ y, ((hiz (a / b) (i + 1) (dlen a)).map enc)[i]? = some y := ⟨_, List.getElem?_eq_getElem (by simp [hiz]; omega)⟩
            have hce := hown2.cellAt i (by omega)
            rw [hy] at hce
            have hfr := hown2.frozenAt i
            have hst := (hown2.stored i (enc lo)).1
            have hset : (hiz (a / b) (i + 1) (dlen a)).set i lo = hiz (a / b) i (dlen a) := by rw [← hS.1]; exact hiz_set _ _ _ (by omega)
            rw [← List.map_set, hset] at hst
            have H2 := bthen0 HBW.out hbel2
            have H3 : Below w.heap.size w (wr.setCell ⟨w.heap.size, i, none⟩ (enc lo)) := H2.setCell (p := ⟨w.heap.size, i, none⟩) (Nat.le_refl _) _
            have HB5 := HB.out.below H3
            have HR5 : Row (wr.setCell ⟨w.heap.size, i, none⟩ (enc lo)) v3 (dig N) := (HR3.out.below hbel2).other HNE.out
            have hS2 : dlen b ≤ 1099511627776 := by omega
            have hS3 : dlen N ≤ 1099511627776 := by omega
            have HST2 : Hid _ := hst
            have hdm := Nat.div_add_mod N b
            rw [hlo'] at hdm
            have HD : Hid (N - b * lo = top a i % b) := show _ = _ by rw [← hS.2.1]; omega
            have HLO : Hid (b * lo ≤ N) := hlo
            clear hlo' hS hown2 hy hst H2 hdm
            go_wp2_with (first
              | (go_at_call 29; refine (times_any _ b lo (by omega) hS2 _ HB5).mono ?_; rintro e w6 ⟨v6, rfl, hr6, hb6⟩)
              | (go_at_call 65; refine (nsub_any _ _ N (b * lo) HLO.out hS3 _ (HR5.below hb6) hr6).mono ?_; rintro e w7 ⟨v7, rfl, hr7, hb7⟩))
            go_roundw
            case rel => exact ⟨i, N - b * lo, by omega, by go_num, HD.out, hr7, owns_below (owns_below HST2.out hb6) hb7, bthen0 (bthen0 H3 hb6) hb7⟩
            case measure => simp [intOf]
      · have g := (HOWN.out.lt w.heap.size rfl).2
        go_wp2_with (at_builtin; go_must (refine wpList_append_own _ rfl _ _ 31 rfl wr.heap.size 3 i0 (.int .i64 0) 1 8 Tryd.underlying31 hi hz0 hz1 hz2 rfl (by decide) _ _ _ rfl hlit ⟨br, or_, none⟩ (dig r).length cr ((dig r).map enc) rfl (by simp) ?_ (by simp [enc]; intros; rfl) (by unfold maxLen; unfold dlen at hdr; omega) (by unfold dlen at hdr; omega) (by simp) ?_))
        · intro j u hj
          rw [List.getElem?_map, Option.map_eq_some_iff] at hj
          obtain ⟨x, hx, rfl⟩ := hj
          have hlt : j < (dig r).length := (List.getElem?_eq_some_iff.1 hx).1
          have := hcr j hlt
          have this : wr.cell? ⟨br, or_ + j, none⟩ = some (.int .i64 (x : Nat)) := by rw [this, List.getD_eq_getElem?_getD, hx]; rfl
          have this : (wr.alloc (.cells #[.int .i64 (d : Int)] 3)).cell? ⟨br, or_ + j, none⟩ = some (.int .i64 (x : Nat)) := (World.cell?_alloc_past _ _ _ hbr).trans this
          unfold Addr.add
          split
          · rename_i h; have hj0 : j = 0 := by simpa using h
            subst hj0; exact this
          · exact this
        · intro v2 w2 hown2' hg2 _
          have hbw2 : Below w.heap.size w w2 := (bmore0 hbel _).grown hg2 (by simp; omega) (fun k hk => by have h : wr.heap.size = k := (by simpa [Value.ownBlock] using hk); omega)
          have how2 := (owns_alloc HOWN.out (.cells #[.int .i64 (d : Int)] 3)).kept hg2 (by right; simp [Value.ownBlock]; omega)
          have hr1 : Row w2 v2 (d :: dig r) := row_own (l := d :: dig r) hown2'
          have hv2 := hown2'.lt
          clear hg2 hown2'
          go_wp2_with (go_at_call 63; refine (cut_own _ _ N z HZ.out _ hr1).mono ?_; rintro e w' ⟨v3, rfl, hr3, hw, hv3⟩; rw [hw]; clear hw w')
          have HNE : Hid (v3.ownBlock ≠ some w.heap.size) := by
            show _ ≠ _
            rw [hv3]
            intro e
            have := (hv2 _ e).1
            omega
          clear hv3 hv2
          have HB3 : Hid (Row w2 _ (dig b)) := HB.out.below hbw2
          have HR3 : Hid (Row w2 v3 (dig N)) := hr3
          have HOW : Hid (w2.ownsRow _ _ _ _ _ _) := how2
          have HBW : Hid (Below w.heap.size w w2) := hbw2
          have hsW := HBW.out.size
          clear hr3
          go_loopw [10, 11] (fun lv hv wr2 => ∃ (lo hi : Nat), lo < hi ∧ hi ≤ 16777216 ∧ Hid (b * lo ≤ N) ∧ Hid (N < b * hi) ∧ lv = .int .i64 lo ∧ hv = .int .i64 hi ∧ ∃ q, Below w2.heap.size w2 wr2) (fun lv hv _ => (intOf hv - intOf lv).toNat)
          case atStart => exact ⟨0, 16777216, by decide, by decide, (by show _ ≤ _; omega), HS.out.2.2, rfl, rfl, 0, Below.refl _ _⟩
          case round =>
            obtain ⟨lo, hi', hlt, hhi, hlo, hup, rfl, rfl, q', hbel2⟩ := hrel
            by_cases hgo : lo + 1 < hi'
            · obtain ⟨mid, hmid⟩ : ∃ m, m = (lo + hi') / 2 := ⟨_, rfl⟩
              have hmi : ((lo : Int) + hi') / 2 = (mid : Int) := by omega
              have m1 : lo < mid := by omega
              have m2 : mid < hi' := by omega
              obtain ⟨x, hx⟩ : ∃ x, x = cmpN (b * mid) N := ⟨_, rfl⟩
              have hxx : (x ≤ 0 ∧ b * mid ≤ N) ∨ (0 < x ∧ N < b * mid) := by
                rw [hx]
                rcases Nat.lt_trichotomy (b * mid) N with g | g | g
                · rw [cmpN_lt g]; exact .inl ⟨by decide, by omega⟩
                · rw [g, cmpN_eq]; exact .inl ⟨by decide, Nat.le_refl _⟩
                · rw [cmpN_gt g]; exact .inr ⟨by decide, g⟩
              have k5 := fun va vb w h1 h2 => ncmp_any va vb (b * mid) N w h1 h2
              rw [← hx] at k5
              have hS2 : dlen b ≤ 1099511627776 := by omega
              clear hmid hx
              have HR4 := HR3.out.below hbel2
              have HB4 := HB3.out.below hbel2
              rcases hxx with ⟨hx1, hx2⟩ | ⟨hx1, hx2⟩
              all_goals
                have HX2 : Hid _ := hx2
                clear hx2
                go_wp2_with (first
                  | (go_at_call 29; refine (times_any _ b mid (by omega) hS2 _ HB4).mono ?_; rintro e w4 ⟨v4, rfl, hr4, hb4⟩)
                  | (go_at_call 64; refine (k5 _ _ _ hr4 (HR4.below hb4)).mono ?_; rintro e w5 ⟨rfl, q5, rfl⟩))
                go_roundw
                case measure => simp [intOf]; omega
                case rel => first
                  | exact ⟨mid, hi', by omega, by omega, HX2.out, hup, rfl, rfl, 0, bdrewN' (hbel2.trans (hb4.mono hbel2.size)) _⟩
                  | exact ⟨lo, mid, by omega, by omega, hlo, HX2.out, rfl, rfl, 0, bdrewN' (hbel2.trans (hb4.mono hbel2.size)) _⟩
            · have hlo' : N / b = lo := by
                have g1 := hlo.out
                have g2 := hup.out
                have g3 : hi' = lo + 1 := by omega
                rw [g3, Nat.mul_comm] at g2
                rw [Nat.mul_comm] at g1
                exact Nat.div_eq_of_lt_le g1 g2
              have hS := HS.out
              rw [hlo'] at hS
              have hown2 := owns_below HOW.out hbel2
              obtain ⟨y, hy⟩ : ∃ y, ((hiz (a / b) (i + 1) (dlen a)).map enc)[i]? = some y := ⟨_, List.getElem?_eq_getElem (by simp [hiz]; omega)⟩
              have hce := hown2.cellAt i (by omega)
              rw [hy] at hce
              have hfr := hown2.frozenAt i
              have hst := (hown2.stored i (enc lo)).1
              have hset : (hiz (a / b) (i + 1) (dlen a)).set i lo = hiz (a / b) i (dlen a) := by rw [← hS.1]; exact hiz_set _ _ _ (by omega)
              rw [← List.map_set, hset] at hst
              have H2 := bthen0 HBW.out hbel2
              have H3 : Below w.heap.size w (wr.setCell ⟨w.heap.size, i, none⟩ (enc lo)) := H2.setCell (p := ⟨w.heap.size, i, none⟩) (Nat.le_refl _) _
              have HB5 := HB.out.below H3
              have HR5 : Row (wr.setCell ⟨w.heap.size, i, none⟩ (enc lo)) v3 (dig N) := (HR3.out.below hbel2).other HNE.out
              have hS2 : dlen b ≤ 1099511627776 := by omega
              have hS3 : dlen N ≤ 1099511627776 := by omega
              have HST2 : Hid _ := hst
              have hdm := Nat.div_add_mod N b
              rw [hlo'] at hdm
              have HD : Hid (N - b * lo = top a i % b) := show _ = _ by rw [← hS.2.1]; omega
              have HLO : Hid (b * lo ≤ N) := hlo
              clear hlo' hS hown2 hy hst H2 hdm
              go_wp2_with (first
                | (go_at_call 29; refine (times_any _ b lo (by omega) hS2 _ HB5).mono ?_; rintro e w6 ⟨v6, rfl, hr6, hb6⟩)
                | (go_at_call 65; refine (nsub_any _ _ N (b * lo) HLO.out hS3 _ (HR5.below hb6) hr6).mono ?_; rintro e w7 ⟨v7, rfl, hr7, hb7⟩))
              go_roundw
              case rel => exact ⟨i, N - b * lo, by omega, by go_num, HD.out, hr7, owns_below (owns_below HST2.out hb6) hb7, bthen0 (bthen0 H3 hb6) hb7⟩
              case measure => simp [intOf]
    · have e : k = 0 := by omega
      subst e
      rw [hiz_zero] at hown
      have hle : dlen (a / b) ≤ dlen a := dlen_mono (Nat.div_le_self _ _)
      rw [low_ge hle] at hown
      have HRW : Hid (Row wr _ _) := row_own hown
      have hr' : r = a % b := hr.out
      have HROW : Hid (Row wr _ (dig (a % b))) := hr' ▸ hrow
      clear hown hrow hr' hra
      go_wp2_with (go_at_call 63; refine (cut_any _ _ (a / b) _ rfl _ HRW.out).mono ?_; rintro e w' ⟨v', rfl, hv, hw⟩; rw [hw]; clear hw w')
      try go_ret2
      exact hQ.out _ _ ⟨_, _, rfl, hv, HROW.out, hbel⟩
end Go.Proofs.YtcdmmblnfdenfabDoor
