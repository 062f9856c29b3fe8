/-
  What decimal.Compare comes to.
-/
import Derived.Test.YtlmhddaelfolfaaDoorCompares
namespace Go.Proofs.YtlmhddaelfolfaaDoor
open Go.RowKit Go.Lib

set_option maxRecDepth 10000 in
set_option maxHeartbeats 800000 in
theorem sizes_any (m e n f : Int) (w : World) (hm : In m) (hn : In n) (he : -32768 ≤ e) (he2 : e ≤ 32767) (hf : -32768 ≤ f) (hf2 : f ≤ 32767) (hp : Pows w) :
    Calls Tryd.prog 32 #[.agg #[.int .i64 m, .int .i64 e], .agg #[.int .i64 n, .int .i64 f]] w fun x w' => x = .returned (.int .i64 (bySize m e n f)) ∧ Grow w w' := by
  have HA := Lib.hid (fun W h => full_any m e W hm he he2 h)
  have HB := Lib.hid (fun W h => full_any n f W hn hf hf2 h)
  have HE : Hid (bySize m e n f = if compareInt (fullE m e) (fullE n f) = 0 then compareInt (fullS m.natAbs : Nat) (fullS n.natAbs : Nat) else compareInt (fullE m e) (fullE n f)) := Lib.hid rfl
  have HP := Lib.hid hp
  clear hp hm hn he he2 hf hf2
  generalize bySize m e n f = R at *
  generalize fullE m e = E1 at *
  generalize fullE n f = E2 at *
  generalize fullS m.natAbs = S1 at *
  generalize fullS n.natAbs = S2 at *
  go_enter Tryd.func32, Tryd.ntmps32
  go_wp2_with fail
  refine (HA.out _ (HP.out.grow (grow_new2 _ _ _))).mono ?_
  rintro x w1 ⟨rfl, hg⟩
  have hb := (boxed_new (w.alloc (.cells #[.int .i64 m, .int .i64 e] 23)) (.int .i64 n) (.int .i64 f) 23).grow hg
  have hsz : (w.alloc (.cells #[.int .i64 m, .int .i64 e] 23)).heap.size = w.heap.size + 1 := by simp
  rw [hsz] at hb
  have hc0 := hb.fst
  have hc1 := hb.snd
  have HG := Lib.hid ((grow_new2 w _ _).trans hg)
  clear hb hg HA hsz
  go_wp2_with fail
  refine (HB.out _ (HP.out.grow HG.out)).mono ?_
  rintro x w2 ⟨rfl, hg⟩
  have HG2 := Lib.hid (HG.out.trans hg)
  clear hg HB HG hc0 hc1
  go_wp2_with fail
  refine (Tryd.cmp_Compare_int E1 E2 _).mono ?_
  rintro x w3 ⟨rfl, rfl⟩
  go_wp2_with fail
  refine (ucmp_any S1 S2 _).mono ?_
  rintro x w4 ⟨rfl, rfl⟩
  generalize compareInt E1 E2 = X at *
  generalize compareInt (S1 : Int) (S2 : Int) = Y at *
  have HO := Lib.hid (or_any X Y w4.heap.size 2 (w4.alloc (.cells #[.int .i64 X, .int .i64 Y] 3)) (by simp) (by simp))
  go_wp2_with fail
  refine (HO.out).mono ?_
  rintro x w5 ⟨rfl, rfl⟩
  clear HO
  rw [← HE.out]
  go_wp2
  go_ret
  exact ⟨rfl, HG2.out.trans (grow_new _ _)⟩

theorem dec_eq (a b c d : Int) (n : Nat) (w : World) : (Op.equalIn (n + 2) 23 (.agg #[.int .i64 a, .int .i64 b]) (.agg #[.int .i64 c, .int .i64 d])).run Tryd.prog w = .ok (a == c && b == d) w := by
  rw [run_equalIn_struct w (n + 1) 23 _ _ (by kernel_rfl) (by kernel_rfl)]
  simp only [Program.fieldsOf, Tryd.underlying23]
  simp [Op.eqFields, go_sem]
  by_cases h1 : a = c
  · by_cases h2 : b = d <;> simp [h1, h2]
  · simp [h1]

theorem cmp_same (x : Int) : compareInt x x = 0 := cmp_eq x

/-- the end of a comparison: the signs are alike, and neither is 0 -/
theorem by_sizes {m e n f : Int} (hm : In m) (hn : In n) (hr : rightB m e = true) (hr' : rightB n f = true) (hq : ¬ (m = n ∧ e = f)) (hs : compareInt (compareInt m 0) (compareInt n 0) = 0) :
    compareInt m 0 * bySize m e n f = compareInt (worth m e) (worth n f) := by
  rcases cmp_cases m 0 with ⟨h, k⟩ | ⟨h, k⟩ | ⟨h, k⟩ <;> rcases cmp_cases n 0 with ⟨h', k'⟩ | ⟨h', k'⟩ | ⟨h', k'⟩ <;> rw [k, k'] at hs <;>
    first
    | exact absurd hs (by decide)
    | skip
  · rw [k, cmp_sizes_neg hm hn hr hr' h h']; omega
  · exfalso
    subst h; subst h'
    exact hq ⟨rfl, (right_zero hr).trans (right_zero hr').symm⟩
  · rw [k, cmp_sizes_pos hm hn hr hr' h h']; omega

set_option maxRecDepth 10000 in
set_option maxHeartbeats 1600000 in
theorem compare_any (m e n f : Int) (w : World) (hm : In m) (he : In e) (hn : In n) (hf : In f) (hp : Pows w) :
    Calls Tryd.prog 22 #[.agg #[.int .i64 m, .int .i64 e], .agg #[.int .i64 n, .int .i64 f]] w fun x w' => x = .returned (.int .i64 (compareInt (worth m e) (worth n f))) ∧ Grow w w' := by
  have HA := Lib.hid (fun W => counted_any m e W hm he)
  have HB := Lib.hid (fun W => counted_any n f W hn hf)
  have HP := Lib.hid hp
  have r1 := cnt_right m e
  have r2 := cnt_right n f
  have i1 := cnt_in hm he
  have i2 := cnt_in hn hf
  rw [← cnt_worth m e, ← cnt_worth n f]
  obtain ⟨⟨m', e'⟩, hc⟩ : ∃ c, cnt m e = c := ⟨_, rfl⟩
  obtain ⟨⟨n', f'⟩, hd⟩ : ∃ c, cnt n f = c := ⟨_, rfl⟩
  rw [hc] at HA r1 i1 ⊢
  rw [hd] at HB r2 i2 ⊢
  simp only at HA HB r1 r2 i1 i2 ⊢
  have x1 := right_exp i1.1 r1
  have x2 := right_exp i2.1 r2
  have HS := Lib.hid (fun W h => sizes_any m' e' n' f' W i1.1 i2.1 x1.1 x1.2 x2.1 x2.2 h)
  have HR : Hid (rightB m' e' = true ∧ rightB n' f' = true ∧ In m' ∧ In n') := Lib.hid ⟨r1, r2, i1.1, i2.1⟩
  have HSG := Lib.hid (fun h => cmp_signs (m := m') (e := e') (n := n') (f := f') r1 r2 h)
  have HBS := Lib.hid (fun hq hs => by_sizes (m := m') (e := e') (n := n') (f := f') i1.1 i2.1 r1 r2 hq hs)
  have HEQ : Hid (m' = n' → e' = f' → compareInt (worth m' e') (worth n' f') = 0) := Lib.hid (fun h1 h2 => by rw [h1, h2]; exact cmp_same _)
  clear hc hd r1 r2 i1 i2 x1 x2 hm he hn hf hp HR
  have HRR := Lib.hid (cmp_range (worth m' e') (worth n' f'))
  generalize compareInt (worth m' e') (worth n' f') = R at *
  go_enter Tryd.func22, Tryd.ntmps22
  go_wp2
  refine wp_region_R ((Below w.heap.size)) (n := 6) rfl (by kernel_rfl) ?_
  intro W0 hW0e hW0
  have hA0 : Boxed 23 W0 w.heap.size (.int .i64 m) (.int .i64 e) := ((boxed_new w (.int .i64 m) (.int .i64 e) 23).grow (grow_new _ _)).grow hW0
  have hB0 : Boxed 23 W0 (w.heap.size + 1) (.int .i64 n) (.int .i64 f) := by
    have h := (boxed_new (w.alloc (.cells #[.int .i64 m, .int .i64 e] 23)) (.int .i64 n) (.int .i64 f) 23).grow hW0
    have hsz : (w.alloc (.cells #[.int .i64 m, .int .i64 e] 23)).heap.size = w.heap.size + 1 := by simp
    rw [hsz] at h
    exact h
  have hG0 : Grow w W0 := (grow_new2 w _ _).trans hW0
  have c01 := hA0.fst; have c02 := hA0.snd; have c03 := hB0.fst; have c04 := hB0.snd
  have HA0 := Lib.hid hA0; have HB0 := Lib.hid hB0; have HG0 := Lib.hid hG0
  clear hA0 hB0 hG0 hW0
  clear hW0e
  refine wpR_two (i := 0) (j := 2) (by kernel_rfl) ?_ ?_
  · refine wpR_op (i := 0) rfl (by rfl) (fun K hK => ?_)
    go_simp
    refine hK.out _ _ (((belowOrd w.heap.size)).refl _) ?_
    clear hK K
    try simp only [Act.put, List.setIfInBounds_toArray, List.set_cons_zero, List.set_cons_succ]
    refine wpR_two (i := 1) (j := 2) (by kernel_rfl) ?_ ?_
    · refine wpR_op (i := 1) rfl (by rfl) (fun K hK => ?_)
      go_simp
      refine (HA.out W0).mono ?_
      rintro x wM1 ⟨rfl, hg1⟩
      have hM1 : Below w.heap.size W0 wM1 := Below.mono hg1 HG0.out.size
      have hB1 := HB0.out.grow hg1
      have c13 := hB1.fst; have c14 := hB1.snd
      have HA1 := Lib.hid (HA0.out.grow hg1)
      have HB1 := Lib.hid hB1
      have HG1 := Lib.hid (HG0.out.trans hg1)
      clear hg1 hB1 HA
      refine hK.out _ _ hM1 ?_
      clear hK K
      try simp only [Act.put, List.setIfInBounds_toArray, List.set_cons_zero, List.set_cons_succ]
      refine wpR_one (i := 2) (by kernel_rfl) ?_
      refine wpR_op (i := 2) rfl (by rfl) (fun K hK => ?_)
      go_simp
      refine hK.out _ _ (((belowOrd w.heap.size)).refl _) ?_
      clear hK K
      try simp only [Act.put, List.setIfInBounds_toArray, List.set_cons_zero, List.set_cons_succ]
      refine wpR_one (i := 3) (by kernel_rfl) ?_
      refine wpR_op (i := 3) rfl (by rfl) (fun K hK => ?_)
      go_simp
      refine (HB.out wM1).mono ?_
      rintro x wM3 ⟨rfl, hg3⟩
      have hM3 : Below w.heap.size wM1 wM3 := Below.mono hg3 HG1.out.size
      have hA3 := HA1.out.grow hg3
      have hB3 := HB1.out.grow hg3
      have c31 := hA3.fst; have c32 := hA3.snd; have f31 := hA3.froz 0; have f32 := hA3.froz 1
      have HA3 := Lib.hid hA3
      have HB3 := Lib.hid hB3
      have HG3 := Lib.hid (HG1.out.trans hg3)
      clear hg3 hA3 hB3 HB
      refine hK.out _ _ hM3 ?_
      clear hK K
      try simp only [Act.put, List.setIfInBounds_toArray, List.set_cons_zero, List.set_cons_succ]
      refine wpR_one (i := 4) (by kernel_rfl) ?_
      refine wpR_op (i := 4) rfl (by rfl) (fun K hK => ?_)
      go_simp
      refine hK.out _ _ (below_put2 _ _ _ (Nat.le_refl _) _ _) ?_
      clear hK K
      try simp only [Act.put, List.setIfInBounds_toArray, List.set_cons_zero, List.set_cons_succ]
      generalize hw4 : World.setCell (World.setCell wM3 ⟨w.heap.size, 0, none⟩ (.int .i64 m')) ⟨w.heap.size, 1, none⟩ (.int .i64 e') = wM4
      have HA4 : Hid (Boxed 23 wM4 w.heap.size (.int .i64 m') (.int .i64 e')) := Lib.hid (by rw [← hw4]; exact (HA3.out.put0 _).put1 _)
      have hB4 : Boxed 23 wM4 (w.heap.size + 1) (.int .i64 n) (.int .i64 f) := by rw [← hw4]; exact (HB3.out.other (by omega) 0 _).other (by omega) 1 _
      have HG4 : Hid (Grow w wM4) := Lib.hid (by rw [← hw4]; exact (HG3.out.put (Nat.le_refl _) 0 _).put (Nat.le_refl _) 1 _)
      have c41 := hB4.fst; have c42 := hB4.snd; have f41 := hB4.froz 0; have f42 := hB4.froz 1
      have HB4 := Lib.hid hB4
      clear hw4 hB4
      refine wpR_one (i := 5) (by kernel_rfl) ?_
      refine wpR_op (i := 5) rfl (by rfl) (fun K hK => ?_)
      go_simp
      refine hK.out _ _ (below_put2 _ _ _ (Nat.le_succ _) _ _) ?_
      clear hK K
      try simp only [Act.put, List.setIfInBounds_toArray, List.set_cons_zero, List.set_cons_succ]
      generalize hw5 : World.setCell (World.setCell wM4 ⟨w.heap.size + 1, 0, none⟩ (.int .i64 n')) ⟨w.heap.size + 1, 1, none⟩ (.int .i64 f') = wM5
      have hA5 : Boxed 23 wM5 w.heap.size (.int .i64 m') (.int .i64 e') := by rw [← hw5]; exact (HA4.out.other (by omega) 0 _).other (by omega) 1 _
      have hB5 : Boxed 23 wM5 (w.heap.size + 1) (.int .i64 n') (.int .i64 f') := by rw [← hw5]; exact (HB4.out.put0 _).put1 _
      have HG5 : Hid (Grow w wM5) := Lib.hid (by rw [← hw5]; exact (HG4.out.put (Nat.le_succ _) 0 _).put (Nat.le_succ _) 1 _)
      have c51 := hA5.fst; have c52 := hA5.snd; have c53 := hB5.fst; have c54 := hB5.snd
      have HA5 := Lib.hid hA5
      have HB5 := Lib.hid hB5
      clear hw5 hA5 hB5
      refine wpR_done (by kernel_rfl) ?_
      by_cases hq : m' = n' ∧ e' = f'
      · obtain ⟨h1, h2⟩ := hq
        have HR0 := Lib.hid (HEQ.out h1 h2)
        subst h1
        subst h2
        go_wp2
        go_ret
        exact ⟨by rw [HR0.out]; rfl, HG5.out⟩
      · have HQ := Lib.hid hq
        have hqb : (m' == n' && e' == f') = false := by simpa using hq
        have heq := dec_eq m' e' n' f'
        have hx1 : ∀ wg, Grow wM5.drew wg → wg.cell? ⟨w.heap.size, 0, none⟩ = some (.int .i64 m') := fun wg h => (HA5.out.grow (Grow.of_drew h)).fst
        have hx2 : ∀ wg, Grow wM5.drew wg → wg.cell? ⟨w.heap.size, 1, none⟩ = some (.int .i64 e') := fun wg h => (HA5.out.grow (Grow.of_drew h)).snd
        have hx3 : ∀ wg, Grow wM5.drew wg → wg.cell? ⟨w.heap.size + 1, 0, none⟩ = some (.int .i64 n') := fun wg h => (HB5.out.grow (Grow.of_drew h)).fst
        have hx4 : ∀ wg, Grow wM5.drew wg → wg.cell? ⟨w.heap.size + 1, 1, none⟩ = some (.int .i64 f') := fun wg h => (HB5.out.grow (Grow.of_drew h)).snd
        clear hq
        go_wp2
        clear heq hqb c51 c52 c53 c54
        refine wp_region_grow (n := 6) rfl (by kernel_rfl) ?_
        refine wpAnyG_take (i := 0) (v := ?v1) rfl (by kernel_rfl) (by kernel_rfl) (by kernel_rfl) (fun _ _ _ h => h) (by rfl) ?h1 ?r1
        case h1 => (intro wg hSw; go_simp <;> with_reducible rfl)
        simp only [Act.put, List.setIfInBounds_toArray, List.set_cons_zero, List.set_cons_succ]
        refine wpAnyG_take (i := 2) (v := ?v2) rfl (by kernel_rfl) (by kernel_rfl) (by kernel_rfl) (fun _ _ _ h => h) (by rfl) ?h2 ?r2
        case h2 => (intro wg hSw; go_simp <;> with_reducible rfl)
        simp only [Act.put, List.setIfInBounds_toArray, List.set_cons_zero, List.set_cons_succ]
        refine wpAnyG_one (i := 1) rfl (by kernel_rfl) (by rfl) (fun K hK => ?_)
        go_simp
        refine (sign_any m' e' _).mono ?_
        rintro x w6 ⟨rfl, hg6⟩
        refine hK.out _ _ (hg6) ?_
        clear hK K
        try simp only [Act.put, List.setIfInBounds_toArray, List.set_cons_zero, List.set_cons_succ]
        refine wpAnyG_one (i := 3) rfl (by kernel_rfl) (by rfl) (fun K hK => ?_)
        go_simp
        refine (sign_any n' f' _).mono ?_
        rintro x w7 ⟨rfl, hg7⟩
        refine hK.out _ _ (hg7) ?_
        clear hK K
        try simp only [Act.put, List.setIfInBounds_toArray, List.set_cons_zero, List.set_cons_succ]
        refine wpAnyG_one (i := 4) rfl (by kernel_rfl) (by rfl) (fun K hK => ?_)
        go_simp
        refine (Tryd.cmp_Compare_int _ _ _).mono ?_
        rintro x w8 ⟨rfl, hw8⟩
        have hg8 : Grow w7 w8 := by rw [hw8]; exact Grow.refl _
        clear hw8
        refine hK.out _ _ (hg8) ?_
        clear hK K
        try simp only [Act.put, List.setIfInBounds_toArray, List.set_cons_zero, List.set_cons_succ]
        refine wpAnyG_take (i := 5) (v := ?v3) rfl (by kernel_rfl) (by kernel_rfl) (by kernel_rfl) (fun _ _ _ h => h) (by rfl) ?h3 ?r3
        case h3 => (intro wg hSw; go_simp <;> with_reducible rfl)
        simp only [Act.put, List.setIfInBounds_toArray, List.set_cons_zero, List.set_cons_succ]
        refine wpAnyG_done (by kernel_rfl) ?_
        have hg58 : Grow wM5 w8 := (Grow.of_drew hg6).trans (hg7.trans hg8)
        have hA8 := HA5.out.grow hg58
        have hB8 := HB5.out.grow hg58
        have hy1 : ∀ wg, Grow w8.drew wg → wg.cell? ⟨w.heap.size, 0, none⟩ = some (.int .i64 m') := fun wg h => (hA8.grow (Grow.of_drew h)).fst
        have hy2 : ∀ wg, Grow w8.drew wg → wg.cell? ⟨w.heap.size, 1, none⟩ = some (.int .i64 e') := fun wg h => (hA8.grow (Grow.of_drew h)).snd
        have hy3 : ∀ wg, Grow w8.drew wg → wg.cell? ⟨w.heap.size + 1, 0, none⟩ = some (.int .i64 n') := fun wg h => (hB8.grow (Grow.of_drew h)).fst
        have hy4 : ∀ wg, Grow w8.drew wg → wg.cell? ⟨w.heap.size + 1, 1, none⟩ = some (.int .i64 f') := fun wg h => (hB8.grow (Grow.of_drew h)).snd
        have HG8 := Lib.hid (HG5.out.trans hg58)
        clear hg6 hg7 hg8 hg58 hA8 hB8 hx1 hx2 hx3 hx4
        by_cases hs : compareInt (compareInt m' 0) (compareInt n' 0) = 0
        · have HR0 := Lib.hid (HBS.out HQ.out hs)
          have hmul : IntKind.i64.wrap (compareInt m' 0 * bySize m' e' n' f') = R := by
            rw [HR0.out, IntKind.wrap_i64]
            have := HRR.out
            omega
          go_wp2
          refine wp_region_grow (n := 7) rfl (by kernel_rfl) ?_
          refine wpAnyG_take (i := 0) (v := ?v4) rfl (by kernel_rfl) (by kernel_rfl) (by kernel_rfl) (fun _ _ _ h => h) (by rfl) ?h4 ?r4
          case h4 => (intro wg hSw; go_simp <;> with_reducible rfl)
          simp only [Act.put, List.setIfInBounds_toArray, List.set_cons_zero, List.set_cons_succ]
          refine wpAnyG_take (i := 2) (v := ?v5) rfl (by kernel_rfl) (by kernel_rfl) (by kernel_rfl) (fun _ _ _ h => h) (by rfl) ?h5 ?r5
          case h5 => (intro wg hSw; go_simp <;> with_reducible rfl)
          simp only [Act.put, List.setIfInBounds_toArray, List.set_cons_zero, List.set_cons_succ]
          refine wpAnyG_take (i := 3) (v := ?v6) rfl (by kernel_rfl) (by kernel_rfl) (by kernel_rfl) (fun _ _ _ h => h) (by rfl) ?h6 ?r6
          case h6 => (intro wg hSw; go_simp <;> with_reducible rfl)
          simp only [Act.put, List.setIfInBounds_toArray, List.set_cons_zero, List.set_cons_succ]
          refine wpAnyG_one (i := 1) rfl (by kernel_rfl) (by rfl) (fun K hK => ?_)
          go_simp
          refine (sign_any m' e' _).mono ?_
          rintro x w9 ⟨rfl, hg9⟩
          refine hK.out _ _ (hg9) ?_
          clear hK K
          try simp only [Act.put, List.setIfInBounds_toArray, List.set_cons_zero, List.set_cons_succ]
          refine wpAnyG_one (i := 4) rfl (by kernel_rfl) (by rfl) (fun K hK => ?_)
          go_simp
          refine (HS.out _ (HP.out.grow (HG8.out.trans (Grow.of_drew hg9)))).mono ?_
          rintro x w10 ⟨rfl, hg10⟩
          refine hK.out _ _ (hg10) ?_
          clear hK K
          try simp only [Act.put, List.setIfInBounds_toArray, List.set_cons_zero, List.set_cons_succ]
          refine wpAnyG_take (i := 5) (v := ?v7) rfl (by kernel_rfl) (by kernel_rfl) (by kernel_rfl) (fun _ _ _ h => h) (by rfl) ?h7 ?r7
          case h7 => (intro wg hSw; go_simp <;> with_reducible rfl)
          simp only [Act.put, List.setIfInBounds_toArray, List.set_cons_zero, List.set_cons_succ]
          refine wpAnyG_take (i := 6) (v := ?v8) rfl (by kernel_rfl) (by kernel_rfl) (by kernel_rfl) (fun _ _ _ h => h) (by rfl) ?h8 ?r8
          case h8 => (intro wg hSw; go_simp <;> with_reducible rfl)
          simp only [Act.put, List.setIfInBounds_toArray, List.set_cons_zero, List.set_cons_succ]
          refine wpAnyG_done (by kernel_rfl) ?_
          go_wp2
          go_ret
          exact ⟨rfl, HG8.out.trans ((Grow.of_drew hg9).trans hg10)⟩
        · have HR0 := Lib.hid (HSG.out hs)
          have hsb : (compareInt (compareInt m' 0) (compareInt n' 0) == 0) = false := by simpa using hs
          clear hs
          go_wp2
          go_ret
          exact ⟨by rw [HR0.out]; rfl, HG8.out⟩
    · refine wpR_op (i := 2) rfl (by rfl) (fun K hK => ?_)
      go_simp
      refine hK.out _ _ (((belowOrd w.heap.size)).refl _) ?_
      clear hK K
      try simp only [Act.put, List.setIfInBounds_toArray, List.set_cons_zero, List.set_cons_succ]
      refine wpR_one (i := 1) (by kernel_rfl) ?_
      refine wpR_op (i := 1) rfl (by rfl) (fun K hK => ?_)
      go_simp
      refine (HA.out W0).mono ?_
      rintro x wM1 ⟨rfl, hg1⟩
      have hM1 : Below w.heap.size W0 wM1 := Below.mono hg1 HG0.out.size
      have hB1 := HB0.out.grow hg1
      have c13 := hB1.fst; have c14 := hB1.snd
      have HA1 := Lib.hid (HA0.out.grow hg1)
      have HB1 := Lib.hid hB1
      have HG1 := Lib.hid (HG0.out.trans hg1)
      clear hg1 hB1 HA
      refine hK.out _ _ hM1 ?_
      clear hK K
      try simp only [Act.put, List.setIfInBounds_toArray, List.set_cons_zero, List.set_cons_succ]
      refine wpR_one (i := 3) (by kernel_rfl) ?_
      refine wpR_op (i := 3) rfl (by rfl) (fun K hK => ?_)
      go_simp
      refine (HB.out wM1).mono ?_
      rintro x wM3 ⟨rfl, hg3⟩
      have hM3 : Below w.heap.size wM1 wM3 := Below.mono hg3 HG1.out.size
      have hA3 := HA1.out.grow hg3
      have hB3 := HB1.out.grow hg3
      have c31 := hA3.fst; have c32 := hA3.snd; have f31 := hA3.froz 0; have f32 := hA3.froz 1
      have HA3 := Lib.hid hA3
      have HB3 := Lib.hid hB3
      have HG3 := Lib.hid (HG1.out.trans hg3)
      clear hg3 hA3 hB3 HB
      refine hK.out _ _ hM3 ?_
      clear hK K
      try simp only [Act.put, List.setIfInBounds_toArray, List.set_cons_zero, List.set_cons_succ]
      refine wpR_one (i := 4) (by kernel_rfl) ?_
      refine wpR_op (i := 4) rfl (by rfl) (fun K hK => ?_)
      go_simp
      refine hK.out _ _ (below_put2 _ _ _ (Nat.le_refl _) _ _) ?_
      clear hK K
      try simp only [Act.put, List.setIfInBounds_toArray, List.set_cons_zero, List.set_cons_succ]
      generalize hw4 : World.setCell (World.setCell wM3 ⟨w.heap.size, 0, none⟩ (.int .i64 m')) ⟨w.heap.size, 1, none⟩ (.int .i64 e') = wM4
      have HA4 : Hid (Boxed 23 wM4 w.heap.size (.int .i64 m') (.int .i64 e')) := Lib.hid (by rw [← hw4]; exact (HA3.out.put0 _).put1 _)
      have hB4 : Boxed 23 wM4 (w.heap.size + 1) (.int .i64 n) (.int .i64 f) := by rw [← hw4]; exact (HB3.out.other (by omega) 0 _).other (by omega) 1 _
      have HG4 : Hid (Grow w wM4) := Lib.hid (by rw [← hw4]; exact (HG3.out.put (Nat.le_refl _) 0 _).put (Nat.le_refl _) 1 _)
      have c41 := hB4.fst; have c42 := hB4.snd; have f41 := hB4.froz 0; have f42 := hB4.froz 1
      have HB4 := Lib.hid hB4
      clear hw4 hB4
      refine wpR_one (i := 5) (by kernel_rfl) ?_
      refine wpR_op (i := 5) rfl (by rfl) (fun K hK => ?_)
      go_simp
      refine hK.out _ _ (below_put2 _ _ _ (Nat.le_succ _) _ _) ?_
      clear hK K
      try simp only [Act.put, List.setIfInBounds_toArray, List.set_cons_zero, List.set_cons_succ]
      generalize hw5 : World.setCell (World.setCell wM4 ⟨w.heap.size + 1, 0, none⟩ (.int .i64 n')) ⟨w.heap.size + 1, 1, none⟩ (.int .i64 f') = wM5
      have hA5 : Boxed 23 wM5 w.heap.size (.int .i64 m') (.int .i64 e') := by rw [← hw5]; exact (HA4.out.other (by omega) 0 _).other (by omega) 1 _
      have hB5 : Boxed 23 wM5 (w.heap.size + 1) (.int .i64 n') (.int .i64 f') := by rw [← hw5]; exact (HB4.out.put0 _).put1 _
      have HG5 : Hid (Grow w wM5) := Lib.hid (by rw [← hw5]; exact (HG4.out.put (Nat.le_succ _) 0 _).put (Nat.le_succ _) 1 _)
      have c51 := hA5.fst; have c52 := hA5.snd; have c53 := hB5.fst; have c54 := hB5.snd
      have HA5 := Lib.hid hA5
      have HB5 := Lib.hid hB5
      clear hw5 hA5 hB5
      refine wpR_done (by kernel_rfl) ?_
      by_cases hq : m' = n' ∧ e' = f'
      · obtain ⟨h1, h2⟩ := hq
        have HR0 := Lib.hid (HEQ.out h1 h2)
        subst h1
        subst h2
        go_wp2
        go_ret
        exact ⟨by rw [HR0.out]; rfl, HG5.out⟩
      · have HQ := Lib.hid hq
        have hqb : (m' == n' && e' == f') = false := by simpa using hq
        have heq := dec_eq m' e' n' f'
        have hx1 : ∀ wg, Grow wM5.drew wg → wg.cell? ⟨w.heap.size, 0, none⟩ = some (.int .i64 m') := fun wg h => (HA5.out.grow (Grow.of_drew h)).fst
        have hx2 : ∀ wg, Grow wM5.drew wg → wg.cell? ⟨w.heap.size, 1, none⟩ = some (.int .i64 e') := fun wg h => (HA5.out.grow (Grow.of_drew h)).snd
        have hx3 : ∀ wg, Grow wM5.drew wg → wg.cell? ⟨w.heap.size + 1, 0, none⟩ = some (.int .i64 n') := fun wg h => (HB5.out.grow (Grow.of_drew h)).fst
        have hx4 : ∀ wg, Grow wM5.drew wg → wg.cell? ⟨w.heap.size + 1, 1, none⟩ = some (.int .i64 f') := fun wg h => (HB5.out.grow (Grow.of_drew h)).snd
        clear hq
        go_wp2
        clear heq hqb c51 c52 c53 c54
        refine wp_region_grow (n := 6) rfl (by kernel_rfl) ?_
        refine wpAnyG_take (i := 0) (v := ?v9) rfl (by kernel_rfl) (by kernel_rfl) (by kernel_rfl) (fun _ _ _ h => h) (by rfl) ?h9 ?r9
        case h9 => (intro wg hSw; go_simp <;> with_reducible rfl)
        simp only [Act.put, List.setIfInBounds_toArray, List.set_cons_zero, List.set_cons_succ]
        refine wpAnyG_take (i := 2) (v := ?v10) rfl (by kernel_rfl) (by kernel_rfl) (by kernel_rfl) (fun _ _ _ h => h) (by rfl) ?h10 ?r10
        case h10 => (intro wg hSw; go_simp <;> with_reducible rfl)
        simp only [Act.put, List.setIfInBounds_toArray, List.set_cons_zero, List.set_cons_succ]
        refine wpAnyG_one (i := 1) rfl (by kernel_rfl) (by rfl) (fun K hK => ?_)
        go_simp
        refine (sign_any m' e' _).mono ?_
        rintro x w6 ⟨rfl, hg6⟩
        refine hK.out _ _ (hg6) ?_
        clear hK K
        try simp only [Act.put, List.setIfInBounds_toArray, List.set_cons_zero, List.set_cons_succ]
        refine wpAnyG_one (i := 3) rfl (by kernel_rfl) (by rfl) (fun K hK => ?_)
        go_simp
        refine (sign_any n' f' _).mono ?_
        rintro x w7 ⟨rfl, hg7⟩
        refine hK.out _ _ (hg7) ?_
        clear hK K
        try simp only [Act.put, List.setIfInBounds_toArray, List.set_cons_zero, List.set_cons_succ]
        refine wpAnyG_one (i := 4) rfl (by kernel_rfl) (by rfl) (fun K hK => ?_)
        go_simp
        refine (Tryd.cmp_Compare_int _ _ _).mono ?_
        rintro x w8 ⟨rfl, hw8⟩
        have hg8 : Grow w7 w8 := by rw [hw8]; exact Grow.refl _
        clear hw8
        refine hK.out _ _ (hg8) ?_
        clear hK K
        try simp only [Act.put, List.setIfInBounds_toArray, List.set_cons_zero, List.set_cons_succ]
        refine wpAnyG_take (i := 5) (v := ?v11) rfl (by kernel_rfl) (by kernel_rfl) (by kernel_rfl) (fun _ _ _ h => h) (by rfl) ?h11 ?r11
        case h11 => (intro wg hSw; go_simp <;> with_reducible rfl)
        simp only [Act.put, List.setIfInBounds_toArray, List.set_cons_zero, List.set_cons_succ]
        refine wpAnyG_done (by kernel_rfl) ?_
        have hg58 : Grow wM5 w8 := (Grow.of_drew hg6).trans (hg7.trans hg8)
        have hA8 := HA5.out.grow hg58
        have hB8 := HB5.out.grow hg58
        have hy1 : ∀ wg, Grow w8.drew wg → wg.cell? ⟨w.heap.size, 0, none⟩ = some (.int .i64 m') := fun wg h => (hA8.grow (Grow.of_drew h)).fst
        have hy2 : ∀ wg, Grow w8.drew wg → wg.cell? ⟨w.heap.size, 1, none⟩ = some (.int .i64 e') := fun wg h => (hA8.grow (Grow.of_drew h)).snd
        have hy3 : ∀ wg, Grow w8.drew wg → wg.cell? ⟨w.heap.size + 1, 0, none⟩ = some (.int .i64 n') := fun wg h => (hB8.grow (Grow.of_drew h)).fst
        have hy4 : ∀ wg, Grow w8.drew wg → wg.cell? ⟨w.heap.size + 1, 1, none⟩ = some (.int .i64 f') := fun wg h => (hB8.grow (Grow.of_drew h)).snd
        have HG8 := Lib.hid (HG5.out.trans hg58)
        clear hg6 hg7 hg8 hg58 hA8 hB8 hx1 hx2 hx3 hx4
        by_cases hs : compareInt (compareInt m' 0) (compareInt n' 0) = 0
        · have HR0 := Lib.hid (HBS.out HQ.out hs)
          have hmul : IntKind.i64.wrap (compareInt m' 0 * bySize m' e' n' f') = R := by
            rw [HR0.out, IntKind.wrap_i64]
            have := HRR.out
            omega
          go_wp2
          refine wp_region_grow (n := 7) rfl (by kernel_rfl) ?_
          refine wpAnyG_take (i := 0) (v := ?v12) rfl (by kernel_rfl) (by kernel_rfl) (by kernel_rfl) (fun _ _ _ h => h) (by rfl) ?h12 ?r12
          case h12 => (intro wg hSw; go_simp <;> with_reducible rfl)
          simp only [Act.put, List.setIfInBounds_toArray, List.set_cons_zero, List.set_cons_succ]
          refine wpAnyG_take (i := 2) (v := ?v13) rfl (by kernel_rfl) (by kernel_rfl) (by kernel_rfl) (fun _ _ _ h => h) (by rfl) ?h13 ?r13
          case h13 => (intro wg hSw; go_simp <;> with_reducible rfl)
          simp only [Act.put, List.setIfInBounds_toArray, List.set_cons_zero, List.set_cons_succ]
          refine wpAnyG_take (i := 3) (v := ?v14) rfl (by kernel_rfl) (by kernel_rfl) (by kernel_rfl) (fun _ _ _ h => h) (by rfl) ?h14 ?r14
          case h14 => (intro wg hSw; go_simp <;> with_reducible rfl)
          simp only [Act.put, List.setIfInBounds_toArray, List.set_cons_zero, List.set_cons_succ]
          refine wpAnyG_one (i := 1) rfl (by kernel_rfl) (by rfl) (fun K hK => ?_)
          go_simp
          refine (sign_any m' e' _).mono ?_
          rintro x w9 ⟨rfl, hg9⟩
          refine hK.out _ _ (hg9) ?_
          clear hK K
          try simp only [Act.put, List.setIfInBounds_toArray, List.set_cons_zero, List.set_cons_succ]
          refine wpAnyG_one (i := 4) rfl (by kernel_rfl) (by rfl) (fun K hK => ?_)
          go_simp
          refine (HS.out _ (HP.out.grow (HG8.out.trans (Grow.of_drew hg9)))).mono ?_
          rintro x w10 ⟨rfl, hg10⟩
          refine hK.out _ _ (hg10) ?_
          clear hK K
          try simp only [Act.put, List.setIfInBounds_toArray, List.set_cons_zero, List.set_cons_succ]
          refine wpAnyG_take (i := 5) (v := ?v15) rfl (by kernel_rfl) (by kernel_rfl) (by kernel_rfl) (fun _ _ _ h => h) (by rfl) ?h15 ?r15
          case h15 => (intro wg hSw; go_simp <;> with_reducible rfl)
          simp only [Act.put, List.setIfInBounds_toArray, List.set_cons_zero, List.set_cons_succ]
          refine wpAnyG_take (i := 6) (v := ?v16) rfl (by kernel_rfl) (by kernel_rfl) (by kernel_rfl) (fun _ _ _ h => h) (by rfl) ?h16 ?r16
          case h16 => (intro wg hSw; go_simp <;> with_reducible rfl)
          simp only [Act.put, List.setIfInBounds_toArray, List.set_cons_zero, List.set_cons_succ]
          refine wpAnyG_done (by kernel_rfl) ?_
          go_wp2
          go_ret
          exact ⟨rfl, HG8.out.trans ((Grow.of_drew hg9).trans hg10)⟩
        · have HR0 := Lib.hid (HSG.out hs)
          have hsb : (compareInt (compareInt m' 0) (compareInt n' 0) == 0) = false := by simpa using hs
          clear hs
          go_wp2
          go_ret
          exact ⟨by rw [HR0.out]; rfl, HG8.out⟩
  · refine wpR_op (i := 2) rfl (by rfl) (fun K hK => ?_)
    go_simp
    refine hK.out _ _ (((belowOrd w.heap.size)).refl _) ?_
    clear hK K
    try simp only [Act.put, List.setIfInBounds_toArray, List.set_cons_zero, List.set_cons_succ]
    refine wpR_one (i := 0) (by kernel_rfl) ?_
    refine wpR_op (i := 0) rfl (by rfl) (fun K hK => ?_)
    go_simp
    refine hK.out _ _ (((belowOrd w.heap.size)).refl _) ?_
    clear hK K
    try simp only [Act.put, List.setIfInBounds_toArray, List.set_cons_zero, List.set_cons_succ]
    refine wpR_one (i := 1) (by kernel_rfl) ?_
    refine wpR_op (i := 1) rfl (by rfl) (fun K hK => ?_)
    go_simp
    refine (HA.out W0).mono ?_
    rintro x wM1 ⟨rfl, hg1⟩
    have hM1 : Below w.heap.size W0 wM1 := Below.mono hg1 HG0.out.size
    have hB1 := HB0.out.grow hg1
    have c13 := hB1.fst; have c14 := hB1.snd
    have HA1 := Lib.hid (HA0.out.grow hg1)
    have HB1 := Lib.hid hB1
    have HG1 := Lib.hid (HG0.out.trans hg1)
    clear hg1 hB1 HA
    refine hK.out _ _ hM1 ?_
    clear hK K
    try simp only [Act.put, List.setIfInBounds_toArray, List.set_cons_zero, List.set_cons_succ]
    refine wpR_one (i := 3) (by kernel_rfl) ?_
    refine wpR_op (i := 3) rfl (by rfl) (fun K hK => ?_)
    go_simp
    refine (HB.out wM1).mono ?_
    rintro x wM3 ⟨rfl, hg3⟩
    have hM3 : Below w.heap.size wM1 wM3 := Below.mono hg3 HG1.out.size
    have hA3 := HA1.out.grow hg3
    have hB3 := HB1.out.grow hg3
    have c31 := hA3.fst; have c32 := hA3.snd; have f31 := hA3.froz 0; have f32 := hA3.froz 1
    have HA3 := Lib.hid hA3
    have HB3 := Lib.hid hB3
    have HG3 := Lib.hid (HG1.out.trans hg3)
    clear hg3 hA3 hB3 HB
    refine hK.out _ _ hM3 ?_
    clear hK K
    try simp only [Act.put, List.setIfInBounds_toArray, List.set_cons_zero, List.set_cons_succ]
    refine wpR_one (i := 4) (by kernel_rfl) ?_
    refine wpR_op (i := 4) rfl (by rfl) (fun K hK => ?_)
    go_simp
    refine hK.out _ _ (below_put2 _ _ _ (Nat.le_refl _) _ _) ?_
    clear hK K
    try simp only [Act.put, List.setIfInBounds_toArray, List.set_cons_zero, List.set_cons_succ]
    generalize hw4 : World.setCell (World.setCell wM3 ⟨w.heap.size, 0, none⟩ (.int .i64 m')) ⟨w.heap.size, 1, none⟩ (.int .i64 e') = wM4
    have HA4 : Hid (Boxed 23 wM4 w.heap.size (.int .i64 m') (.int .i64 e')) := Lib.hid (by rw [← hw4]; exact (HA3.out.put0 _).put1 _)
    have hB4 : Boxed 23 wM4 (w.heap.size + 1) (.int .i64 n) (.int .i64 f) := by rw [← hw4]; exact (HB3.out.other (by omega) 0 _).other (by omega) 1 _
    have HG4 : Hid (Grow w wM4) := Lib.hid (by rw [← hw4]; exact (HG3.out.put (Nat.le_refl _) 0 _).put (Nat.le_refl _) 1 _)
    have c41 := hB4.fst; have c42 := hB4.snd; have f41 := hB4.froz 0; have f42 := hB4.froz 1
    have HB4 := Lib.hid hB4
    clear hw4 hB4
    refine wpR_one (i := 5) (by kernel_rfl) ?_
    refine wpR_op (i := 5) rfl (by rfl) (fun K hK => ?_)
    go_simp
    refine hK.out _ _ (below_put2 _ _ _ (Nat.le_succ _) _ _) ?_
    clear hK K
    try simp only [Act.put, List.setIfInBounds_toArray, List.set_cons_zero, List.set_cons_succ]
    generalize hw5 : World.setCell (World.setCell wM4 ⟨w.heap.size + 1, 0, none⟩ (.int .i64 n')) ⟨w.heap.size + 1, 1, none⟩ (.int .i64 f') = wM5
    have hA5 : Boxed 23 wM5 w.heap.size (.int .i64 m') (.int .i64 e') := by rw [← hw5]; exact (HA4.out.other (by omega) 0 _).other (by omega) 1 _
    have hB5 : Boxed 23 wM5 (w.heap.size + 1) (.int .i64 n') (.int .i64 f') := by rw [← hw5]; exact (HB4.out.put0 _).put1 _
    have HG5 : Hid (Grow w wM5) := Lib.hid (by rw [← hw5]; exact (HG4.out.put (Nat.le_succ _) 0 _).put (Nat.le_succ _) 1 _)
    have c51 := hA5.fst; have c52 := hA5.snd; have c53 := hB5.fst; have c54 := hB5.snd
    have HA5 := Lib.hid hA5
    have HB5 := Lib.hid hB5
    clear hw5 hA5 hB5
    refine wpR_done (by kernel_rfl) ?_
    by_cases hq : m' = n' ∧ e' = f'
    · obtain ⟨h1, h2⟩ := hq
      have HR0 := Lib.hid (HEQ.out h1 h2)
      subst h1
      subst h2
      go_wp2
      go_ret
      exact ⟨by rw [HR0.out]; rfl, HG5.out⟩
    · have HQ := Lib.hid hq
      have hqb : (m' == n' && e' == f') = false := by simpa using hq
      have heq := dec_eq m' e' n' f'
      have hx1 : ∀ wg, Grow wM5.drew wg → wg.cell? ⟨w.heap.size, 0, none⟩ = some (.int .i64 m') := fun wg h => (HA5.out.grow (Grow.of_drew h)).fst
      have hx2 : ∀ wg, Grow wM5.drew wg → wg.cell? ⟨w.heap.size, 1, none⟩ = some (.int .i64 e') := fun wg h => (HA5.out.grow (Grow.of_drew h)).snd
      have hx3 : ∀ wg, Grow wM5.drew wg → wg.cell? ⟨w.heap.size + 1, 0, none⟩ = some (.int .i64 n') := fun wg h => (HB5.out.grow (Grow.of_drew h)).fst
      have hx4 : ∀ wg, Grow wM5.drew wg → wg.cell? ⟨w.heap.size + 1, 1, none⟩ = some (.int .i64 f') := fun wg h => (HB5.out.grow (Grow.of_drew h)).snd
      clear hq
      go_wp2
      clear heq hqb c51 c52 c53 c54
      refine wp_region_grow (n := 6) rfl (by kernel_rfl) ?_
      refine wpAnyG_take (i := 0) (v := ?v17) rfl (by kernel_rfl) (by kernel_rfl) (by kernel_rfl) (fun _ _ _ h => h) (by rfl) ?h17 ?r17
      case h17 => (intro wg hSw; go_simp <;> with_reducible rfl)
      simp only [Act.put, List.setIfInBounds_toArray, List.set_cons_zero, List.set_cons_succ]
      refine wpAnyG_take (i := 2) (v := ?v18) rfl (by kernel_rfl) (by kernel_rfl) (by kernel_rfl) (fun _ _ _ h => h) (by rfl) ?h18 ?r18
      case h18 => (intro wg hSw; go_simp <;> with_reducible rfl)
      simp only [Act.put, List.setIfInBounds_toArray, List.set_cons_zero, List.set_cons_succ]
      refine wpAnyG_one (i := 1) rfl (by kernel_rfl) (by rfl) (fun K hK => ?_)
      go_simp
      refine (sign_any m' e' _).mono ?_
      rintro x w6 ⟨rfl, hg6⟩
      refine hK.out _ _ (hg6) ?_
      clear hK K
      try simp only [Act.put, List.setIfInBounds_toArray, List.set_cons_zero, List.set_cons_succ]
      refine wpAnyG_one (i := 3) rfl (by kernel_rfl) (by rfl) (fun K hK => ?_)
      go_simp
      refine (sign_any n' f' _).mono ?_
      rintro x w7 ⟨rfl, hg7⟩
      refine hK.out _ _ (hg7) ?_
      clear hK K
      try simp only [Act.put, List.setIfInBounds_toArray, List.set_cons_zero, List.set_cons_succ]
      refine wpAnyG_one (i := 4) rfl (by kernel_rfl) (by rfl) (fun K hK => ?_)
      go_simp
      refine (Tryd.cmp_Compare_int _ _ _).mono ?_
      rintro x w8 ⟨rfl, hw8⟩
      have hg8 : Grow w7 w8 := by rw [hw8]; exact Grow.refl _
      clear hw8
      refine hK.out _ _ (hg8) ?_
      clear hK K
      try simp only [Act.put, List.setIfInBounds_toArray, List.set_cons_zero, List.set_cons_succ]
      refine wpAnyG_take (i := 5) (v := ?v19) rfl (by kernel_rfl) (by kernel_rfl) (by kernel_rfl) (fun _ _ _ h => h) (by rfl) ?h19 ?r19
      case h19 => (intro wg hSw; go_simp <;> with_reducible rfl)
      simp only [Act.put, List.setIfInBounds_toArray, List.set_cons_zero, List.set_cons_succ]
      refine wpAnyG_done (by kernel_rfl) ?_
      have hg58 : Grow wM5 w8 := (Grow.of_drew hg6).trans (hg7.trans hg8)
      have hA8 := HA5.out.grow hg58
      have hB8 := HB5.out.grow hg58
      have hy1 : ∀ wg, Grow w8.drew wg → wg.cell? ⟨w.heap.size, 0, none⟩ = some (.int .i64 m') := fun wg h => (hA8.grow (Grow.of_drew h)).fst
      have hy2 : ∀ wg, Grow w8.drew wg → wg.cell? ⟨w.heap.size, 1, none⟩ = some (.int .i64 e') := fun wg h => (hA8.grow (Grow.of_drew h)).snd
      have hy3 : ∀ wg, Grow w8.drew wg → wg.cell? ⟨w.heap.size + 1, 0, none⟩ = some (.int .i64 n') := fun wg h => (hB8.grow (Grow.of_drew h)).fst
      have hy4 : ∀ wg, Grow w8.drew wg → wg.cell? ⟨w.heap.size + 1, 1, none⟩ = some (.int .i64 f') := fun wg h => (hB8.grow (Grow.of_drew h)).snd
      have HG8 := Lib.hid (HG5.out.trans hg58)
      clear hg6 hg7 hg8 hg58 hA8 hB8 hx1 hx2 hx3 hx4
      by_cases hs : compareInt (compareInt m' 0) (compareInt n' 0) = 0
      · have HR0 := Lib.hid (HBS.out HQ.out hs)
        have hmul : IntKind.i64.wrap (compareInt m' 0 * bySize m' e' n' f') = R := by
          rw [HR0.out, IntKind.wrap_i64]
          have := HRR.out
          omega
        go_wp2
        refine wp_region_grow (n := 7) rfl (by kernel_rfl) ?_
        refine wpAnyG_take (i := 0) (v := ?v20) rfl (by kernel_rfl) (by kernel_rfl) (by kernel_rfl) (fun _ _ _ h => h) (by rfl) ?h20 ?r20
        case h20 => (intro wg hSw; go_simp <;> with_reducible rfl)
        simp only [Act.put, List.setIfInBounds_toArray, List.set_cons_zero, List.set_cons_succ]
        refine wpAnyG_take (i := 2) (v := ?v21) rfl (by kernel_rfl) (by kernel_rfl) (by kernel_rfl) (fun _ _ _ h => h) (by rfl) ?h21 ?r21
        case h21 => (intro wg hSw; go_simp <;> with_reducible rfl)
        simp only [Act.put, List.setIfInBounds_toArray, List.set_cons_zero, List.set_cons_succ]
        refine wpAnyG_take (i := 3) (v := ?v22) rfl (by kernel_rfl) (by kernel_rfl) (by kernel_rfl) (fun _ _ _ h => h) (by rfl) ?h22 ?r22
        case h22 => (intro wg hSw; go_simp <;> with_reducible rfl)
        simp only [Act.put, List.setIfInBounds_toArray, List.set_cons_zero, List.set_cons_succ]
        refine wpAnyG_one (i := 1) rfl (by kernel_rfl) (by rfl) (fun K hK => ?_)
        go_simp
        refine (sign_any m' e' _).mono ?_
        rintro x w9 ⟨rfl, hg9⟩
        refine hK.out _ _ (hg9) ?_
        clear hK K
        try simp only [Act.put, List.setIfInBounds_toArray, List.set_cons_zero, List.set_cons_succ]
        refine wpAnyG_one (i := 4) rfl (by kernel_rfl) (by rfl) (fun K hK => ?_)
        go_simp
        refine (HS.out _ (HP.out.grow (HG8.out.trans (Grow.of_drew hg9)))).mono ?_
        rintro x w10 ⟨rfl, hg10⟩
        refine hK.out _ _ (hg10) ?_
        clear hK K
        try simp only [Act.put, List.setIfInBounds_toArray, List.set_cons_zero, List.set_cons_succ]
        refine wpAnyG_take (i := 5) (v := ?v23) rfl (by kernel_rfl) (by kernel_rfl) (by kernel_rfl) (fun _ _ _ h => h) (by rfl) ?h23 ?r23
        case h23 => (intro wg hSw; go_simp <;> with_reducible rfl)
        simp only [Act.put, List.setIfInBounds_toArray, List.set_cons_zero, List.set_cons_succ]
        refine wpAnyG_take (i := 6) (v := ?v24) rfl (by kernel_rfl) (by kernel_rfl) (by kernel_rfl) (fun _ _ _ h => h) (by rfl) ?h24 ?r24
        case h24 => (intro wg hSw; go_simp <;> with_reducible rfl)
        simp only [Act.put, List.setIfInBounds_toArray, List.set_cons_zero, List.set_cons_succ]
        refine wpAnyG_done (by kernel_rfl) ?_
        go_wp2
        go_ret
        exact ⟨rfl, HG8.out.trans ((Grow.of_drew hg9).trans hg10)⟩
      · have HR0 := Lib.hid (HSG.out hs)
        have hsb : (compareInt (compareInt m' 0) (compareInt n' 0) == 0) = false := by simpa using hs
        clear hs
        go_wp2
        go_ret
        exact ⟨by rw [HR0.out]; rfl, HG8.out⟩

end Go.Proofs.YtlmhddaelfolfaaDoor
