/-
  ShapeNext comes to true, whatever it is called with.
-/
import Derived.Test.YtbediaeaodjnmaaSmall
import Derived.BigRegion
namespace Go.Proofs.Ytbediaeaodjnmaa
open Go.RowKit Go.Lib
set_option linter.unusedVariables false
set_option linter.unusedSimpArgs false

theorem up_full {q m : Nat} (h : q % m = m - 1) (hm : 0 < m) : (q + 1) % m = 0 ∧ (q + 1) / m = q / m + 1 := by
  have e := Nat.div_add_mod q m
  have e1 : q + 1 = m * (q / m + 1) := by rw [Nat.mul_add, Nat.mul_one]; omega
  rw [e1]
  exact ⟨Nat.mul_mod_right _ _, Nat.mul_div_cancel_left _ hm⟩
theorem up_room {q m : Nat} (h : q % m ≠ m - 1) (hm : 0 < m) : (q + 1) % m = q % m + 1 ∧ (q + 1) / m = q / m := by
  have e := Nat.div_add_mod q m
  have hl := Nat.mod_lt q hm
  have e1 : q + 1 = m * (q / m) + (q % m + 1) := by omega
  have hr : q % m + 1 < m := by omega
  refine ⟨?_, ?_⟩
  · rw [e1, Nat.mul_add_mod, Nat.mod_eq_of_lt hr]
  · rw [e1, Nat.mul_add_div hm, Nat.div_eq_of_lt hr]
    omega
theorem take_digs (I J : Nat) : ∀ (X : List Nat) (t : Nat), J / prodN (X.drop t) = I / prodN (X.drop t) → (digs X J).take t = (digs X I).take t
  | [], _, _ => by simp [digs]
  | _ :: _, 0, _ => by simp
  | x :: X, t + 1, h => by
    have h' : J / prodN (X.drop t) = I / prodN (X.drop t) := by simpa using h
    have ih := take_digs I J X t h'
    have e : prodN X = prodN (X.drop t) * prodN (X.take t) := by
      rw [Nat.mul_comm, ← prod_app, List.take_append_drop]
    simp only [digs, List.take_succ_cons]
    rw [ih, e, ← Nat.div_div_eq_div_mul, ← Nat.div_div_eq_div_mul, h']
theorem ind_at {xs : List Int} {I t m : Nat} (h : indB xs ((I : Nat) : Int) = true) (ht : t < xs.length) (e : xs.getD t 0 = (m : Nat)) :
    (ind xs ((I : Nat) : Int)).getD t 0 = ((I / prodN (toN (xs.drop (t + 1))) % m : Nat) : Int) := by
  rw [ind_yes h, Int.toNat_natCast]
  have htl : t < (toN xs).length := by rw [toN_len]; exact ht
  have e1 := digs_at I (toN xs) t htl
  have e2 : t < (digs (toN xs) I).length := by rw [digs_len]; exact htl
  have e3 : (ofN (digs (toN xs) I)).getD t 0 = (((digs (toN xs) I).getD t 0 : Nat) : Int) := by simp [ofN, List.getD, e2]
  rw [e3, e1, toN_at ht e, toN_drop]
theorem ind_take {xs : List Int} {I J t : Nat} (h : indB xs ((I : Nat) : Int) = true) (h' : indB xs ((J : Nat) : Int) = true)
    (e : J / prodN (toN (xs.drop t)) = I / prodN (toN (xs.drop t))) : (ind xs ((J : Nat) : Int)).take t = (ind xs ((I : Nat) : Int)).take t := by
  rw [ind_yes h, ind_yes h', Int.toNat_natCast, Int.toNat_natCast]
  unfold ofN
  rw [← List.map_take, ← List.map_take, take_digs I J (toN xs) t (by rw [← toN_drop]; exact e)]
theorem ind_full {xs : List Int} {i : Int} (h : indB xs i = true) : (ind xs i).length = xs.length := by
  rw [ind_yes h, ofN_len, digs_len, toN_len]

set_option maxRecDepth 10000 in
set_option maxHeartbeats 3200000 in
theorem lnext_both (A : Option Addr) (n c I : Nat) (xs : List Int) (w : World) (hn : xs.length = n) (hm : n ≤ 50) (hr : Nums .i64 w w.heap.size A xs) (hI : I ≤ 1048576) (hb : indB xs ((I : Nat) : Int) = true) (hd : indB xs (((I : Nat) : Int) + 1) = true) :
    Calls Try.prog 7 #[.slice A n c, .int .i64 (I : Nat)] w (Fine w) := by
  have HR := Lib.hid hr
  have HN := Lib.hid hn
  have h50i : ¬ (50 : Int) < ((n : Nat) : Int) := by omega
  have hi0 : ¬ ((I : Nat) : Int) < 0 := by omega
  have hi1 : ¬ (1048576 : Int) < ((I : Nat) : Int) := by omega
  have hw1 : IntKind.i64.wrap (((I : Nat) : Int) + 1) = ((I : Nat) : Int) + 1 := by rw [IntKind.wrap_i64]; omega
  have H1 := Lib.hid (fun W h => index_any A n c xs ((I : Nat) : Int) W HN.out (by omega) h (by omega))
  have H2 := Lib.hid (fun W h => index_any A n c xs (((I : Nat) : Int) + 1) W HN.out (by omega) h (by omega))
  have hJ : ((I : Nat) : Int) + 1 = ((I + 1 : Nat) : Int) := by omega
  have hd' := hd
  rw [hJ] at hd'
  unfold Indexed at H1 H2
  have l1 := ind_full hb
  have l2 := ind_full hd
  rw [hn] at l1 l2
  rw [hb, l1] at H1
  rw [hd, l2] at H2
  have hlt : I + 1 < prodN (toN xs) := by
    simp only [indB, Bool.and_eq_true, decide_eq_true_eq] at hd'
    omega
  have HP0 := Lib.hid (show prodN (toN xs) ≠ 0 by omega)
  have HLT := Lib.hid hlt
  have hrb : rightB xs = true := by
    simp only [indB, Bool.and_eq_true] at hb
    exact hb.1
  have HAL := Lib.hid (right_iff.1 hrb).2.1
  have HA := Lib.hid (fun t m ht e => ind_at (t := t) (m := m) hb ht e)
  have HC := Lib.hid (fun t m ht e => ind_at (t := t) (m := m) hd' ht e)
  have HT := Lib.hid (fun t e => ind_take (t := t) hb hd' e)
  rw [← hJ] at HC HT
  have HL1 := Lib.hid l1
  have HL2 := Lib.hid l2
  generalize ind xs ((I : Nat) : Int) = us at H1 HA HT HL1
  generalize ind xs (((I : Nat) : Int) + 1) = vs at H2 HC HT HL2
  clear hb hd hd' l1 l2 hlt hrb hJ hr hn
  have hne : (((n : Nat) : Int) != ((n : Nat) : Int)) = false := by simp
  go_enter Try.func7, Try.ntmps7
  go_wp2_with fail
  refine (small_any w).mono ?_
  rintro x w1 ⟨rfl, hg⟩
  have HG1 := Lib.hid hg
  have HR1 := Lib.hid (HR.out.grow hg)
  clear hg HR
  go_wp2_with fail
  refine (H1.out w1 HR1.out).mono ?_
  rintro e w2 ⟨A1, rfl, hz1, hg⟩
  have HG2 := Lib.hid hg
  have HU2 := Lib.hid hz1
  clear hg H1 hz1
  go_wp2_with fail
  refine (H2.out w2 (HR1.out.grow HG2.out)).mono ?_
  rintro e w3 ⟨A2, rfl, hz2, hg⟩
  have HG3 := Lib.hid (HG2.out.trans hg)
  have HU := Lib.hid (HU2.out.grow hg)
  have HV := Lib.hid hz2
  have HR3 := Lib.hid (HR1.out.grow HG3.out)
  clear hg H2 hz2 HU2 HG2
  go_wp2
  go_loopg [10] n (fun g s10 wr => ∃ j : Nat, j ≤ n ∧ j = g ∧ s10 = .int .i64 ((j : Nat) - 1) ∧ Hid ((I + 1) / prodN (toN (xs.drop j)) = I / prodN (toN (xs.drop j)) + 1) ∧ Hid (Grow w3 wr))
  case atStart => exact ⟨n, Nat.le_refl _, rfl, by go_num, Lib.hid (by rw [List.drop_of_length_le (by rw [HN.out]; exact Nat.le_refl _)]; simp [toN, prodN]), Lib.hid (Grow.refl _)⟩
  case round =>
    obtain ⟨j, hj, rfl, h9, HCA, HG⟩ := hrel
    by_cases hj0 : 0 < j
    · obtain ⟨t, rfl⟩ : ∃ t, j = t + 1 := ⟨j - 1, by omega⟩
      rw [show ((t + 1 : Nat) : Int) - 1 = ((t : Nat) : Int) by omega] at h9
      subst h9
      have htl : t < xs.length := by rw [HN.out]; omega
      obtain ⟨b, off, rfl, hbb, hcl⟩ := HR3.out.grow HG.out (by omega)
      obtain ⟨b1, o1, rfl, hb1, hc1⟩ := HU.out.grow HG.out (by rw [HL1.out]; omega)
      obtain ⟨b2, o2, rfl, hb2, hc2⟩ := HV.out.grow HG.out (by rw [HL2.out]; omega)
      have hx := hcl t htl
      have ha := hc1 t (by rw [HL1.out]; omega)
      have hv := hc2 t (by rw [HL2.out]; omega)
      obtain ⟨m, hm1, hmb⟩ := at_ok htl HAL.out
      have HPD := Lib.hid (prod_drop htl hm1)
      have hpos := pos_drop HP0.out t
      rw [HPD.out] at hpos
      have hm0 : 0 < m := Nat.pos_of_mul_pos_right hpos
      rw [hm1] at hx
      rw [HA.out t m htl hm1] at ha
      rw [HC.out t m htl hm1, HCA.out] at hv
      have HDV : Hid (∀ J : Nat, J / prodN (toN (xs.drop t)) = J / prodN (toN (xs.drop (t + 1))) / m) := Lib.hid (fun J => by rw [HPD.out, Nat.div_div_eq_div_mul, Nat.mul_comm])
      have HTK := Lib.hid (HT.out t)
      rw [HDV.out, HDV.out, HCA.out] at HTK
      have HNX : Hid ((I / prodN (toN (xs.drop (t + 1))) + 1) / m = I / prodN (toN (xs.drop (t + 1))) / m + 1 → (I + 1) / prodN (toN (xs.drop t)) = I / prodN (toN (xs.drop t)) + 1) := Lib.hid (fun h => by rw [HDV.out, HDV.out, HCA.out, h])
      clear hcl hc1 hc2 htl hm1 hpos HPD HDV
      generalize I / prodN (toN (xs.drop (t + 1))) = q at ha hv HTK HNX
      have hwm : IntKind.i64.wrap (((m : Nat) : Int) - 1) = ((m : Nat) : Int) - 1 := by rw [IntKind.wrap_i64]; omega
      have hwt : IntKind.i64.wrap (((t : Nat) : Int) - 1) = ((t : Nat) : Int) - 1 := by rw [IntKind.wrap_i64]; omega
      have ht0 : ¬ ((t : Nat) : Int) < 0 := by omega
      have hql := Nat.mod_lt q hm0
      by_cases hf : q % m = m - 1
      · obtain ⟨e1, e2⟩ := up_full hf hm0
        rw [e1] at hv
        have HNX' := Lib.hid (HNX.out e2)
        obtain ⟨r, hr⟩ : ∃ r, q % m = r := ⟨_, rfl⟩
        rw [hr] at ha hf hql
        have heq : (((r : Nat) : Int) == ((m : Nat) : Int) - 1) = true := by rw [beq_iff_eq]; omega
        clear e1 e2 hf HNX HTK hr
        go_wp2
        go_quiet (fail)
        go_wp2
        go_roundg t
        case rel => exact ⟨t, by omega, rfl, by first | rfl | go_num, HNX', Lib.hid (HG.out.drewN _)⟩
        case measure => omega
      · obtain ⟨e1, e2⟩ := up_room hf hm0
        rw [e1] at hv
        have HTK' := Lib.hid (HTK.out e2)
        obtain ⟨r, hr⟩ : ∃ r, q % m = r := ⟨_, rfl⟩
        rw [hr] at ha hf hql hv
        have heq : (((r : Nat) : Int) == ((m : Nat) : Int) - 1) = false := by rw [beq_eq_false_iff_ne]; omega
        have hwr : IntKind.i64.wrap (((r : Nat) : Int) + 1) = ((r + 1 : Nat) : Int) := by rw [IntKind.wrap_i64]; omega
        have heq1 : (((r + 1 : Nat) : Int) == ((r + 1 : Nat) : Int)) = true := by simp
        have hU5 := Lib.hid (HU.out.grow HG.out)
        have hV5 := Lib.hid (HV.out.grow HG.out)
        clear e1 e2 hf HNX HTK hr
        go_wp2
        go_quiet (fail)
        go_wp2
        generalize hW5 : World.drewN wr _ = W5
        have hG5 : Grow wr W5 := by rw [← hW5]; exact drewN_grow _ _
        clear hW5
        have HG5 := Lib.hid (HG3.out.trans (HG.out.trans hG5))
        have haw : ∀ wg, Grow W5.drew wg → wg.cell? ⟨b1, o1 + t, none⟩ = some (.int .i64 ((r : Nat) : Int)) := fun wg hg => ((hG5.trans (Grow.of_drew hg)).cell hb1).trans ha
        have hvw : ∀ wg, Grow W5.drew wg → wg.cell? ⟨b2, o2 + t, none⟩ = some (.int .i64 ((r + 1 : Nat) : Int)) := fun wg hg => ((hG5.trans (Grow.of_drew hg)).cell hb2).trans hv
        have hUT := Lib.hid ((hU5.out.grow hG5).take t)
        have hVT := Lib.hid ((hV5.out.grow hG5).take t)
        rw [HTK'.out] at hVT
        have HTL : Hid ((us.take t).length = t) := Lib.hid (by rw [List.length_take, HL1.out]; omega)
        have HDR := Lib.hid (show Grow W5 W5.drew from (Grow.refl _).drew)
        have htn : t < n := by omega
        have htn' : t ≤ n := by omega
        clear ha hv hx hG5 hU5 hV5
        refine wp_region_grow (n := 27) rfl (by kernel_rfl) ?_
        refine wpAnyG_take (i := 0) (v := ?v1) rfl (by kernel_rfl) (by kernel_rfl) (by kernel_rfl) (fun _ _ _ h => h) (by rfl) ?h1 ?r1
        case h1 => (intro wg hSw; go_simp <;> with_reducible rfl)
        simp only [Act.put, List.setIfInBounds_toArray, List.set_cons_zero, List.set_cons_succ]
        refine wpAnyG_take (i := 1) (v := ?v2) rfl (by kernel_rfl) (by kernel_rfl) (by kernel_rfl) (fun _ _ _ h => h) (by rfl) ?h2 ?r2
        case h2 => (intro wg hSw; go_simp <;> with_reducible rfl)
        simp only [Act.put, List.setIfInBounds_toArray, List.set_cons_zero, List.set_cons_succ]
        refine wpAnyG_take (i := 2) (v := ?v3) rfl (by kernel_rfl) (by kernel_rfl) (by kernel_rfl) (fun _ _ _ h => h) (by rfl) ?h3 ?r3
        case h3 => (intro wg hSw; go_simp <;> with_reducible rfl)
        simp only [Act.put, List.setIfInBounds_toArray, List.set_cons_zero, List.set_cons_succ]
        refine wpAnyG_take (i := 3) (v := ?v4) rfl (by kernel_rfl) (by kernel_rfl) (by kernel_rfl) (fun _ _ _ h => h) (by rfl) ?h4 ?r4
        case h4 => (intro wg hSw; go_simp <;> with_reducible rfl)
        simp only [Act.put, List.setIfInBounds_toArray, List.set_cons_zero, List.set_cons_succ]
        refine wpAnyG_take (i := 4) (v := ?v5) rfl (by kernel_rfl) (by kernel_rfl) (by kernel_rfl) (fun _ _ _ h => h) (by rfl) ?h5 ?r5
        case h5 => (intro wg hSw; go_simp <;> with_reducible rfl)
        simp only [Act.put, List.setIfInBounds_toArray, List.set_cons_zero, List.set_cons_succ]
        refine wpAnyG_take (i := 5) (v := ?v6) rfl (by kernel_rfl) (by kernel_rfl) (by kernel_rfl) (fun _ _ _ h => h) (by rfl) ?h6 ?r6
        case h6 => (intro wg hSw; go_simp <;> with_reducible rfl)
        simp only [Act.put, List.setIfInBounds_toArray, List.set_cons_zero, List.set_cons_succ]
        refine wpAnyG_take (i := 6) (v := ?v7) rfl (by kernel_rfl) (by kernel_rfl) (by kernel_rfl) (fun _ _ _ h => h) (by rfl) ?h7 ?r7
        case h7 => (intro wg hSw; go_simp <;> with_reducible rfl)
        simp only [Act.put, List.setIfInBounds_toArray, List.set_cons_zero, List.set_cons_succ]
        refine wpAnyG_take (i := 7) (v := ?v8) rfl (by kernel_rfl) (by kernel_rfl) (by kernel_rfl) (fun _ _ _ h => h) (by rfl) ?h8 ?r8
        case h8 => (intro wg hSw; go_simp <;> with_reducible rfl)
        simp only [Act.put, List.setIfInBounds_toArray, List.set_cons_zero, List.set_cons_succ]
        refine wpAnyG_take (i := 8) (v := ?v9) rfl (by kernel_rfl) (by kernel_rfl) (by kernel_rfl) (fun _ _ _ h => h) (by rfl) ?h9 ?r9
        case h9 => (intro wg hSw; go_simp <;> with_reducible rfl)
        simp only [Act.put, List.setIfInBounds_toArray, List.set_cons_zero, List.set_cons_succ]
        refine wpAnyG_take (i := 9) (v := ?v10) rfl (by kernel_rfl) (by kernel_rfl) (by kernel_rfl) (fun _ _ _ h => h) (by rfl) ?h10 ?r10
        case h10 => (intro wg hSw; go_simp <;> with_reducible rfl)
        simp only [Act.put, List.setIfInBounds_toArray, List.set_cons_zero, List.set_cons_succ]
        refine wpAnyG_take (i := 10) (v := ?v11) rfl (by kernel_rfl) (by kernel_rfl) (by kernel_rfl) (fun _ _ _ h => h) (by rfl) ?h11 ?r11
        case h11 => (intro wg hSw; go_simp <;> with_reducible rfl)
        simp only [Act.put, List.setIfInBounds_toArray, List.set_cons_zero, List.set_cons_succ]
        refine wpAnyG_take (i := 11) (v := ?v12) rfl (by kernel_rfl) (by kernel_rfl) (by kernel_rfl) (fun _ _ _ h => h) (by rfl) ?h12 ?r12
        case h12 => (intro wg hSw; go_simp <;> with_reducible rfl)
        simp only [Act.put, List.setIfInBounds_toArray, List.set_cons_zero, List.set_cons_succ]
        refine wpAnyG_take (i := 12) (v := ?v13) rfl (by kernel_rfl) (by kernel_rfl) (by kernel_rfl) (fun _ _ _ h => h) (by rfl) ?h13 ?r13
        case h13 => (intro wg hSw; go_simp <;> with_reducible rfl)
        simp only [Act.put, List.setIfInBounds_toArray, List.set_cons_zero, List.set_cons_succ]
        refine wpAnyG_take (i := 13) (v := ?v14) rfl (by kernel_rfl) (by kernel_rfl) (by kernel_rfl) (fun _ _ _ h => h) (by rfl) ?h14 ?r14
        case h14 => (intro wg hSw; go_simp <;> with_reducible rfl)
        simp only [Act.put, List.setIfInBounds_toArray, List.set_cons_zero, List.set_cons_succ]
        refine wpAnyG_take (i := 14) (v := ?v15) rfl (by kernel_rfl) (by kernel_rfl) (by kernel_rfl) (fun _ _ _ h => h) (by rfl) ?h15 ?r15
        case h15 => (intro wg hSw; go_simp <;> with_reducible rfl)
        simp only [Act.put, List.setIfInBounds_toArray, List.set_cons_zero, List.set_cons_succ]
        refine wpAnyG_take (i := 15) (v := ?v16) rfl (by kernel_rfl) (by kernel_rfl) (by kernel_rfl) (fun _ _ _ h => h) (by rfl) ?h16 ?r16
        case h16 => (intro wg hSw; go_simp <;> with_reducible rfl)
        simp only [Act.put, List.setIfInBounds_toArray, List.set_cons_zero, List.set_cons_succ]
        refine wpAnyG_take (i := 16) (v := ?v17) rfl (by kernel_rfl) (by kernel_rfl) (by kernel_rfl) (fun _ _ _ h => h) (by rfl) ?h17 ?r17
        case h17 => (intro wg hSw; go_simp <;> with_reducible rfl)
        simp only [Act.put, List.setIfInBounds_toArray, List.set_cons_zero, List.set_cons_succ]
        refine wpAnyG_take (i := 17) (v := ?v18) rfl (by kernel_rfl) (by kernel_rfl) (by kernel_rfl) (fun _ _ _ h => h) (by rfl) ?h18 ?r18
        case h18 => (intro wg hSw; go_simp <;> with_reducible rfl)
        simp only [Act.put, List.setIfInBounds_toArray, List.set_cons_zero, List.set_cons_succ]
        refine wpAnyG_take (i := 18) (v := ?v19) rfl (by kernel_rfl) (by kernel_rfl) (by kernel_rfl) (fun _ _ _ h => h) (by rfl) ?h19 ?r19
        case h19 => (intro wg hSw; go_simp <;> with_reducible rfl)
        simp only [Act.put, List.setIfInBounds_toArray, List.set_cons_zero, List.set_cons_succ]
        refine wpAnyG_take (i := 19) (v := ?v20) rfl (by kernel_rfl) (by kernel_rfl) (by kernel_rfl) (fun _ _ _ h => h) (by rfl) ?h20 ?r20
        case h20 => (intro wg hSw; go_simp <;> with_reducible rfl)
        simp only [Act.put, List.setIfInBounds_toArray, List.set_cons_zero, List.set_cons_succ]
        refine wpAnyG_take (i := 20) (v := ?v21) rfl (by kernel_rfl) (by kernel_rfl) (by kernel_rfl) (fun _ _ _ h => h) (by rfl) ?h21 ?r21
        case h21 => (intro wg hSw; go_simp <;> with_reducible rfl)
        simp only [Act.put, List.setIfInBounds_toArray, List.set_cons_zero, List.set_cons_succ]
        refine wpAnyG_take (i := 21) (v := ?v22) rfl (by kernel_rfl) (by kernel_rfl) (by kernel_rfl) (fun _ _ _ h => h) (by rfl) ?h22 ?r22
        case h22 => (intro wg hSw; go_simp <;> with_reducible rfl)
        simp only [Act.put, List.setIfInBounds_toArray, List.set_cons_zero, List.set_cons_succ]
        refine wpAnyG_take (i := 22) (v := ?v23) rfl (by kernel_rfl) (by kernel_rfl) (by kernel_rfl) (fun _ _ _ h => h) (by rfl) ?h23 ?r23
        case h23 => (intro wg hSw; go_simp <;> with_reducible rfl)
        simp only [Act.put, List.setIfInBounds_toArray, List.set_cons_zero, List.set_cons_succ]
        refine wpAnyG_take (i := 23) (v := ?v24) rfl (by kernel_rfl) (by kernel_rfl) (by kernel_rfl) (fun _ _ _ h => h) (by rfl) ?h24 ?r24
        case h24 => (intro wg hSw; go_simp <;> with_reducible rfl)
        simp only [Act.put, List.setIfInBounds_toArray, List.set_cons_zero, List.set_cons_succ]
        refine wpAnyG_one (i := 24) rfl (by kernel_rfl) (by rfl) (fun K hK => ?_)
        go_simp
        refine (same_eq _ _ t _ _ (us.take t) _ HTL.out (by omega) (hUT.out.grow HDR.out) (hVT.out.grow HDR.out)).mono ?_
        rintro e w6 ⟨rfl, hg6⟩
        refine hK.out _ _ (hg6) ?_
        clear hK K
        try simp only [Act.put, List.setIfInBounds_toArray, List.set_cons_zero, List.set_cons_succ]
        refine wpAnyG_take (i := 25) (v := ?v25) rfl (by kernel_rfl) (by kernel_rfl) (by kernel_rfl) (fun _ _ _ h => h) (by rfl) ?h25 ?r25
        case h25 => (intro wg hSw; go_simp <;> with_reducible rfl)
        simp only [Act.put, List.setIfInBounds_toArray, List.set_cons_zero, List.set_cons_succ]
        refine wpAnyG_take (i := 26) (v := ?v26) rfl (by kernel_rfl) (by kernel_rfl) (by kernel_rfl) (fun _ _ _ h => h) (by rfl) ?h26 ?r26
        case h26 => (intro wg hSw; go_simp <;> with_reducible rfl)
        simp only [Act.put, List.setIfInBounds_toArray, List.set_cons_zero, List.set_cons_succ]
        refine wpAnyG_done (by kernel_rfl) ?_
        have HG6 := Lib.hid (HG1.out.trans (HG5.out.trans (HDR.out.trans hg6)))
        clear hg6 haw hvw
        go_wp2
        go_ret
        exact ⟨rfl, HG6.out⟩
    · obtain rfl : j = 0 := by omega
      have h1 := HCA.out
      rw [List.drop_zero, Nat.div_eq_of_lt HLT.out] at h1
      exact absurd h1.symm (Nat.succ_ne_zero _)

theorem ind_next {xs : List Int} {I : Nat} (h : indB xs ((I : Nat) : Int) = false) : indB xs (((I : Nat) : Int) + 1) = false := by
  rw [indB_cnt] at h ⊢
  rw [Bool.and_eq_false_iff] at h ⊢
  simp only [decide_eq_false_iff_not] at h ⊢
  omega

set_option maxRecDepth 10000 in
set_option maxHeartbeats 1600000 in
theorem lnext_walk (A : Option Addr) (n c : Nat) (xs : List Int) (i : Int) (w : World) (hn : xs.length = n) (hm : n ≤ 9223372036854775807) (hr : Nums .i64 w w.heap.size A xs) :
    Calls Try.prog 7 #[.slice A n c, .int .i64 i] w (Fine w) := by
  by_cases h50 : 50 < n
  · have h50i : (50 : Int) < ((n : Nat) : Int) := by omega
    clear hr hn
    go_enter Try.func7, Try.ntmps7
    go_wp2_with fail
    refine (small_any w).mono ?_
    rintro x w1 ⟨rfl, hg⟩
    have HG1 := Lib.hid hg
    clear hg
    go_wp2
    go_ret
    exact ⟨rfl, HG1.out⟩
  have h50i : ¬ (50 : Int) < ((n : Nat) : Int) := by omega
  by_cases hi0 : i < 0
  · clear hr hn
    go_enter Try.func7, Try.ntmps7
    go_wp2_with fail
    refine (small_any w).mono ?_
    rintro x w1 ⟨rfl, hg⟩
    have HG1 := Lib.hid hg
    clear hg
    go_wp2
    go_ret
    exact ⟨rfl, HG1.out⟩
  by_cases hi1 : 1048576 < i
  · clear hr hn
    go_enter Try.func7, Try.ntmps7
    go_wp2_with fail
    refine (small_any w).mono ?_
    rintro x w1 ⟨rfl, hg⟩
    have HG1 := Lib.hid hg
    clear hg
    go_wp2
    go_ret
    exact ⟨rfl, HG1.out⟩
  obtain ⟨I, rfl⟩ : ∃ I : Nat, i = (I : Nat) := ⟨i.toNat, by omega⟩
  cases hd : indB xs (((I : Nat) : Int) + 1) with
  | true =>
    cases hb : indB xs ((I : Nat) : Int) with
    | true => exact lnext_both A n c I xs w hn (by omega) hr (by omega) hb hd
    | false => rw [ind_next hb] at hd; cases hd
  | false =>
    have HR := Lib.hid hr
    have HN := Lib.hid hn
    have hw1 : IntKind.i64.wrap (((I : Nat) : Int) + 1) = ((I : Nat) : Int) + 1 := by rw [IntKind.wrap_i64]; omega
    have H1 := Lib.hid (fun W h => index_any A n c xs ((I : Nat) : Int) W HN.out (by omega) h (by omega))
    have H2 := Lib.hid (fun W h => index_any A n c xs (((I : Nat) : Int) + 1) W HN.out (by omega) h (by omega))
    unfold Indexed at H1 H2
    rw [hd] at H2
    clear hd hr hn
    generalize ind xs ((I : Nat) : Int) = us at H1
    generalize ind xs (((I : Nat) : Int) + 1) = vs at H2
    cases hb : indB xs ((I : Nat) : Int) with
    | false =>
      rw [hb] at H1
      clear hb
      go_enter Try.func7, Try.ntmps7
      go_wp2_with fail
      refine (small_any w).mono ?_
      rintro x w1 ⟨rfl, hg⟩
      have HG1 := Lib.hid hg
      have HR1 := Lib.hid (HR.out.grow hg)
      clear hg HR
      go_wp2_with fail
      refine (H1.out w1 HR1.out).mono ?_
      rintro e w2 ⟨A1, rfl, hz1, hg⟩
      have HG2 := Lib.hid hg
      clear hg H1 hz1
      go_wp2_with fail
      refine (H2.out w2 (HR1.out.grow HG2.out)).mono ?_
      rintro e w3 ⟨A2, rfl, hz2, hg⟩
      have HG3 := Lib.hid (HG1.out.trans (HG2.out.trans hg))
      clear hg H2 hz2
      go_wp2
      go_ret
      exact ⟨rfl, HG3.out⟩
    | true =>
      rw [hb] at H1
      clear hb
      go_enter Try.func7, Try.ntmps7
      go_wp2_with fail
      refine (small_any w).mono ?_
      rintro x w1 ⟨rfl, hg⟩
      have HG1 := Lib.hid hg
      have HR1 := Lib.hid (HR.out.grow hg)
      clear hg HR
      go_wp2_with fail
      refine (H1.out w1 HR1.out).mono ?_
      rintro e w2 ⟨A1, rfl, hz1, hg⟩
      have HG2 := Lib.hid hg
      clear hg H1 hz1
      go_wp2_with fail
      refine (H2.out w2 (HR1.out.grow HG2.out)).mono ?_
      rintro e w3 ⟨A2, rfl, hz2, hg⟩
      have HG3 := Lib.hid (HG1.out.trans (HG2.out.trans hg))
      clear hg H2 hz2
      go_wp2
      go_ret
      exact ⟨rfl, HG3.out⟩
end Go.Proofs.Ytbediaeaodjnmaa
