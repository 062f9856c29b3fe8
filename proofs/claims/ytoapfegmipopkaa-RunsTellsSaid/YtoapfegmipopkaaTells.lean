/-
  The law RunsTells at every input.
-/
import Derived.Test.YtoapfegmipopkaaRDec
namespace Go.Proofs.Ytoapfegmipopkaa
open Go.RowKit

/-- both answers are the same -/
theorem same_dec {xs : List Int} {n : Int} {w w' u u' : World} {e e' : Ending} (h : Decoded xs n w e w') (h' : Decoded xs n u e' u') :
    (∃ ys A A' c c' Y, ys.length = Y ∧ e = .returned (.tuple #[.slice A Y c, .bool true]) ∧ e' = .returned (.tuple #[.slice A' Y c', .bool true]) ∧ Nums .u8 w' w'.heap.size A ys ∧ Nums .u8 u' u'.heap.size A' ys) ∨
      (e = .returned (.tuple #[.slice none 0 0, .bool false]) ∧ e' = .returned (.tuple #[.slice none 0 0, .bool false])) := by
  obtain ⟨-, ⟨ys, v, h1, h2, h3, h4, h5⟩ | ⟨h1, h2⟩⟩ := h
  · have hy := Decoded.yes h' h1 h2 rfl
    obtain ⟨A', c', q1, q2, q3, q4, q5⟩ := hy
    obtain ⟨A, c, rfl, hA, hn, -⟩ := own_nums h5
    exact .inl ⟨ys, A, A', c, c', ys.length, rfl, h4, q1, hn, q4⟩
  · exact .inr ⟨h2, (Decoded.no h' h1).1⟩

set_option linter.unusedSimpArgs false
set_option maxRecDepth 10000 in
set_option maxHeartbeats 1600000 in
theorem tells_walk (A : Option Addr) (n c : Nat) (bs : List Int) (x : Int) (w : World) (h1 : bs.length = n) (hn : n ≤ 9223372036854775807) (hnc : n ≤ c) (hc : A = none → c = 0) (b1 : Byt bs) (r1 : Nums .u8 w w.heap.size A bs) (hx0 : -9223372036854775808 ≤ x) :
    Calls Try.prog 3 #[.slice A n c, .int .i64 x] w (Fine w) := by
  have HS := Lib.hid (small_any w)
  by_cases h : 500 < n
  · clear h1 hc b1 r1 hnc
    go_enter Try.func3, Try.ntmps3
    go_wp2_with fail
    refine (HS.out).mono ?_
    rintro e w1 ⟨rfl, hb1⟩
    go_wp2
    go_ret
    exact ⟨rfl, hb1⟩
  · by_cases hx : 5000 < x
    · clear h1 hc b1 r1 hnc
      have hn5 : n ≤ 500 := by omega
      go_enter Try.func3, Try.ntmps3
      go_wp2_with fail
      refine (HS.out).mono ?_
      rintro e w1 ⟨rfl, hb1⟩
      go_wp2
      go_ret
      exact ⟨rfl, hb1⟩
    · have HD := Lib.hid (fun W G => decode_any A n c bs x W h1 (by omega) hc b1 G (fun hx => by omega))
      have HD' := Lib.hid (fun W G => rdecode_any A n c bs x W h1 (by omega) hc b1 G hx0 (by omega))
      obtain ⟨E, hE⟩ : ∃ E, (enc bs).length = E := ⟨_, rfl⟩
      have HEN := Lib.hid (fun W G => (encode_any A n c bs W h1 (by omega) hnc hc b1 G).mono fun _ _ x => x.bytes hE)
      have HEN' := Lib.hid (fun W G => (rencode_any A n c bs W h1 (by omega) hnc hc G).mono fun _ _ x => x.bytes hE)
      have HR := Lib.hid r1
      have HN := Lib.hid h1
      have HE := Lib.hid hE
      have hn5 : n ≤ 500 := by omega
      have hx5 : x ≤ 5000 := by omega
      clear h1 hc b1 r1 hn hE hnc
      go_enter Try.func3, Try.ntmps3
      go_wp2_with fail
      refine (HS.out).mono ?_
      rintro e w1 ⟨rfl, hb1⟩
      have HB1 := Lib.hid hb1
      clear hb1
      go_wp2_with fail
      refine (HD.out w1 (HR.out.grow HB1.out)).mono ?_
      rintro e2 w2 hd2
      have HB2 := Lib.hid (HB1.out.trans hd2.1)
      have HD2 := Lib.hid hd2
      have hform : ∃ A2 m2 c2 b2, e2 = .returned (.tuple #[.slice A2 m2 c2, .bool b2]) := by
        rcases hd2.2 with ⟨ys, v, -, -, -, h4, h5⟩ | ⟨-, h4⟩
        · obtain ⟨A2, c2, rfl, -⟩ := own_nums h5
          exact ⟨_, _, _, _, h4⟩
        · exact ⟨_, _, _, _, h4⟩
      obtain ⟨A2, m2, c2, b2, rfl⟩ := hform
      clear hd2 HD
      go_wp2_with fail
      refine (HD'.out w2 (HR.out.grow HB2.out)).mono ?_
      rintro e3 w3 hd3
      have HB3 := Lib.hid (HB2.out.trans hd3.1)
      have HB23 := Lib.hid hd3.1
      have hsame := same_dec HD2.out hd3
      clear hd3 HD' HD2
      obtain ⟨S, hS⟩ : ∃ S, strOfNums (enc bs) = S := ⟨_, rfl⟩
      have HSS := Lib.hid hS
      clear hS
      rcases hsame with ⟨ys, A2', A3, c2', c3, Y, hY, he2, rfl, hn2, hn3⟩ | ⟨he2, rfl⟩
      · cases he2
        have HY := Lib.hid hY
        have HN2 := Lib.hid hn2
        have HN3 := Lib.hid hn3
        obtain ⟨U, hU⟩ : ∃ U, strOfNums ys = U := ⟨_, rfl⟩
        have HU := Lib.hid hU
        clear hY hn2 hn3 hU
        go_wp2
        refine wp_region_grow (n := 23) rfl (by kernel_rfl) ?_
        refine wpAnyG_take (i := 0) (v := ?v1) rfl (by kernel_rfl) (by kernel_rfl) (by kernel_rfl) (fun _ _ _ h => h) (by rfl) ?h1 ?r1
        case h1 => (intro wg hSw; go_simp <;> with_reducible rfl)
        simp only [Act.put, List.setIfInBounds_toArray, List.set_cons_zero, List.set_cons_succ]
        refine wpAnyG_take (i := 1) (v := ?v2) rfl (by kernel_rfl) (by kernel_rfl) (by kernel_rfl) (fun _ _ _ h => h) (by rfl) ?h2 ?r2
        case h2 => (intro wg hSw; go_simp <;> with_reducible rfl)
        simp only [Act.put, List.setIfInBounds_toArray, List.set_cons_zero, List.set_cons_succ]
        refine wpAnyG_take (i := 2) (v := ?v3) rfl (by kernel_rfl) (by kernel_rfl) (by kernel_rfl) (fun _ _ _ h => h) (by rfl) ?h3 ?r3
        case h3 => (intro wg hSw; go_simp <;> with_reducible rfl)
        simp only [Act.put, List.setIfInBounds_toArray, List.set_cons_zero, List.set_cons_succ]
        refine wpAnyG_take (i := 5) (v := ?v4) rfl (by kernel_rfl) (by kernel_rfl) (by kernel_rfl) (fun _ _ _ h => h) (by rfl) ?h4 ?r4
        case h4 => (intro wg hSw; go_simp <;> with_reducible rfl)
        simp only [Act.put, List.setIfInBounds_toArray, List.set_cons_zero, List.set_cons_succ]
        refine wpAnyG_one (i := 3) rfl (by kernel_rfl) (by rfl) (fun K hK => ?_)
        go_simp
        refine (HEN.out _ (HR.out.grow (HB3.out.drew))).mono ?_
        rintro e w4 ⟨A4, c4, rfl, -, -, hn4, hb4⟩
        have hs1 : ∀ wg, Grow w4 wg → (convert 22 9 (.slice A4 E c4)).run Try.prog wg = .ok (.string S) wg := fun wg hg => by
          rw [← HSS.out]
          exact conv_at E c4 hn4 HE.out wg hg
        refine hK.out _ _ (hb4) ?_
        clear hK K
        try simp only [Act.put, List.setIfInBounds_toArray, List.set_cons_zero, List.set_cons_succ]
        refine wpAnyG_take (i := 4) (v := ?v5) rfl (by kernel_rfl) (by kernel_rfl) (by kernel_rfl) (fun _ _ _ h => h) (by rfl) ?h5 ?r5
        case h5 => (intro wg hSw; go_simp <;> with_reducible rfl)
        simp only [Act.put, List.setIfInBounds_toArray, List.set_cons_zero, List.set_cons_succ]
        refine wpAnyG_one (i := 6) rfl (by kernel_rfl) (by rfl) (fun K hK => ?_)
        go_simp
        refine (HEN'.out w4 (HR.out.grow (HB3.out.trans (Grow.of_drew hb4)))).mono ?_
        rintro e w5 ⟨A5, c5, rfl, -, -, hn5', hb5⟩
        have hs2 : ∀ wg, Grow w5 wg → (convert 22 9 (.slice A5 E c5)).run Try.prog wg = .ok (.string S) wg := fun wg hg => by
          rw [← HSS.out]
          exact conv_at E c5 hn5' HE.out wg hg
        have hg35 : Grow w3 w5 := (Grow.of_drew hb4).trans hb5
        have hs3 : ∀ wg, Grow w5 wg → (convert 22 9 (.slice A2 m2 c2)).run Try.prog wg = .ok (.string U) wg := fun wg hg => by
          rw [← HU.out]
          exact conv_at m2 c2 (HN2.out.grow HB23.out) HY.out wg (hg35.trans hg)
        have hs4 : ∀ wg, Grow w5 wg → (convert 22 9 (.slice A3 m2 c3)).run Try.prog wg = .ok (.string U) wg := fun wg hg => by
          rw [← HU.out]
          exact conv_at m2 c3 HN3.out HY.out wg (hg35.trans hg)
        refine hK.out _ _ (hb5) ?_
        clear hK K
        try simp only [Act.put, List.setIfInBounds_toArray, List.set_cons_zero, List.set_cons_succ]
        refine wpAnyG_take (i := 7) (v := ?v6) rfl (by kernel_rfl) (by kernel_rfl) (by kernel_rfl) (fun _ _ _ h => h) (by rfl) ?h6 ?r6
        case h6 => (intro wg hSw; go_simp <;> with_reducible rfl)
        simp only [Act.put, List.setIfInBounds_toArray, List.set_cons_zero, List.set_cons_succ]
        refine wpAnyG_take (i := 8) (v := ?v7) rfl (by kernel_rfl) (by kernel_rfl) (by kernel_rfl) (fun _ _ _ h => h) (by rfl) ?h7 ?r7
        case h7 => (intro wg hSw; go_simp <;> with_reducible rfl)
        simp only [Act.put, List.setIfInBounds_toArray, List.set_cons_zero, List.set_cons_succ]
        refine wpAnyG_take (i := 9) (v := ?v8) rfl (by kernel_rfl) (by kernel_rfl) (by kernel_rfl) (fun _ _ _ h => h) (by rfl) ?h8 ?r8
        case h8 => (intro wg hSw; go_simp <;> with_reducible rfl)
        simp only [Act.put, List.setIfInBounds_toArray, List.set_cons_zero, List.set_cons_succ]
        refine wpAnyG_take (i := 10) (v := ?v9) rfl (by kernel_rfl) (by kernel_rfl) (by kernel_rfl) (fun _ _ _ h => h) (by rfl) ?h9 ?r9
        case h9 => (intro wg hSw; go_simp <;> with_reducible rfl)
        simp only [Act.put, List.setIfInBounds_toArray, List.set_cons_zero, List.set_cons_succ]
        refine wpAnyG_take (i := 11) (v := ?v10) rfl (by kernel_rfl) (by kernel_rfl) (by kernel_rfl) (fun _ _ _ h => h) (by rfl) ?h10 ?r10
        case h10 => (intro wg hSw; go_simp <;> with_reducible rfl)
        simp only [Act.put, List.setIfInBounds_toArray, List.set_cons_zero, List.set_cons_succ]
        refine wpAnyG_take (i := 12) (v := ?v11) rfl (by kernel_rfl) (by kernel_rfl) (by kernel_rfl) (fun _ _ _ h => h) (by rfl) ?h11 ?r11
        case h11 => (intro wg hSw; go_simp <;> with_reducible rfl)
        simp only [Act.put, List.setIfInBounds_toArray, List.set_cons_zero, List.set_cons_succ]
        refine wpAnyG_take (i := 13) (v := ?v12) rfl (by kernel_rfl) (by kernel_rfl) (by kernel_rfl) (fun _ _ _ h => h) (by rfl) ?h12 ?r12
        case h12 => (intro wg hSw; go_simp <;> with_reducible rfl)
        simp only [Act.put, List.setIfInBounds_toArray, List.set_cons_zero, List.set_cons_succ]
        refine wpAnyG_take (i := 14) (v := ?v13) rfl (by kernel_rfl) (by kernel_rfl) (by kernel_rfl) (fun _ _ _ h => h) (by rfl) ?h13 ?r13
        case h13 => (intro wg hSw; go_simp <;> with_reducible rfl)
        simp only [Act.put, List.setIfInBounds_toArray, List.set_cons_zero, List.set_cons_succ]
        refine wpAnyG_take (i := 15) (v := ?v14) rfl (by kernel_rfl) (by kernel_rfl) (by kernel_rfl) (fun _ _ _ h => h) (by rfl) ?h14 ?r14
        case h14 => (intro wg hSw; go_simp <;> with_reducible rfl)
        simp only [Act.put, List.setIfInBounds_toArray, List.set_cons_zero, List.set_cons_succ]
        refine wpAnyG_take (i := 16) (v := ?v15) rfl (by kernel_rfl) (by kernel_rfl) (by kernel_rfl) (fun _ _ _ h => h) (by rfl) ?h15 ?r15
        case h15 => (intro wg hSw; go_simp <;> with_reducible rfl)
        simp only [Act.put, List.setIfInBounds_toArray, List.set_cons_zero, List.set_cons_succ]
        refine wpAnyG_take (i := 17) (v := ?v16) rfl (by kernel_rfl) (by kernel_rfl) (by kernel_rfl) (fun _ _ _ h => h) (by rfl) ?h16 ?r16
        case h16 => (intro wg hSw; go_simp <;> with_reducible rfl)
        simp only [Act.put, List.setIfInBounds_toArray, List.set_cons_zero, List.set_cons_succ]
        refine wpAnyG_take (i := 18) (v := ?v17) rfl (by kernel_rfl) (by kernel_rfl) (by kernel_rfl) (fun _ _ _ h => h) (by rfl) ?h17 ?r17
        case h17 => (intro wg hSw; go_simp <;> with_reducible rfl)
        simp only [Act.put, List.setIfInBounds_toArray, List.set_cons_zero, List.set_cons_succ]
        refine wpAnyG_take (i := 19) (v := ?v18) rfl (by kernel_rfl) (by kernel_rfl) (by kernel_rfl) (fun _ _ _ h => h) (by rfl) ?h18 ?r18
        case h18 => (intro wg hSw; go_simp <;> with_reducible rfl)
        simp only [Act.put, List.setIfInBounds_toArray, List.set_cons_zero, List.set_cons_succ]
        refine wpAnyG_take (i := 20) (v := ?v19) rfl (by kernel_rfl) (by kernel_rfl) (by kernel_rfl) (fun _ _ _ h => h) (by rfl) ?h19 ?r19
        case h19 => (intro wg hSw; go_simp <;> with_reducible rfl)
        simp only [Act.put, List.setIfInBounds_toArray, List.set_cons_zero, List.set_cons_succ]
        refine wpAnyG_take (i := 21) (v := ?v20) rfl (by kernel_rfl) (by kernel_rfl) (by kernel_rfl) (fun _ _ _ h => h) (by rfl) ?h20 ?r20
        case h20 => (intro wg hSw; go_simp <;> with_reducible rfl)
        simp only [Act.put, List.setIfInBounds_toArray, List.set_cons_zero, List.set_cons_succ]
        refine wpAnyG_take (i := 22) (v := ?v21) rfl (by kernel_rfl) (by kernel_rfl) (by kernel_rfl) (fun _ _ _ h => h) (by rfl) ?h21 ?r21
        case h21 => (intro wg hSw; go_simp <;> with_reducible rfl)
        simp only [Act.put, List.setIfInBounds_toArray, List.set_cons_zero, List.set_cons_succ]
        refine wpAnyG_done (by kernel_rfl) ?_
        clear hs1 hs2 hs3 hs4
        go_wp2
        go_ret
        exact ⟨rfl, HB3.out.trans hg35⟩
      · cases he2
        go_wp2
        refine wp_region_grow (n := 23) rfl (by kernel_rfl) ?_
        refine wpAnyG_take (i := 0) (v := ?v22) rfl (by kernel_rfl) (by kernel_rfl) (by kernel_rfl) (fun _ _ _ h => h) (by rfl) ?h22 ?r22
        case h22 => (intro wg hSw; go_simp <;> with_reducible rfl)
        simp only [Act.put, List.setIfInBounds_toArray, List.set_cons_zero, List.set_cons_succ]
        refine wpAnyG_take (i := 1) (v := ?v23) rfl (by kernel_rfl) (by kernel_rfl) (by kernel_rfl) (fun _ _ _ h => h) (by rfl) ?h23 ?r23
        case h23 => (intro wg hSw; go_simp <;> with_reducible rfl)
        simp only [Act.put, List.setIfInBounds_toArray, List.set_cons_zero, List.set_cons_succ]
        refine wpAnyG_take (i := 2) (v := ?v24) rfl (by kernel_rfl) (by kernel_rfl) (by kernel_rfl) (fun _ _ _ h => h) (by rfl) ?h24 ?r24
        case h24 => (intro wg hSw; go_simp <;> with_reducible rfl)
        simp only [Act.put, List.setIfInBounds_toArray, List.set_cons_zero, List.set_cons_succ]
        refine wpAnyG_take (i := 5) (v := ?v25) rfl (by kernel_rfl) (by kernel_rfl) (by kernel_rfl) (fun _ _ _ h => h) (by rfl) ?h25 ?r25
        case h25 => (intro wg hSw; go_simp <;> with_reducible rfl)
        simp only [Act.put, List.setIfInBounds_toArray, List.set_cons_zero, List.set_cons_succ]
        refine wpAnyG_one (i := 3) rfl (by kernel_rfl) (by rfl) (fun K hK => ?_)
        go_simp
        refine (HEN.out _ (HR.out.grow (HB3.out.drew))).mono ?_
        rintro e w4 ⟨A4, c4, rfl, -, -, hn4, hb4⟩
        have hs1 : ∀ wg, Grow w4 wg → (convert 22 9 (.slice A4 E c4)).run Try.prog wg = .ok (.string S) wg := fun wg hg => by
          rw [← HSS.out]
          exact conv_at E c4 hn4 HE.out wg hg
        refine hK.out _ _ (hb4) ?_
        clear hK K
        try simp only [Act.put, List.setIfInBounds_toArray, List.set_cons_zero, List.set_cons_succ]
        refine wpAnyG_take (i := 4) (v := ?v26) rfl (by kernel_rfl) (by kernel_rfl) (by kernel_rfl) (fun _ _ _ h => h) (by rfl) ?h26 ?r26
        case h26 => (intro wg hSw; go_simp <;> with_reducible rfl)
        simp only [Act.put, List.setIfInBounds_toArray, List.set_cons_zero, List.set_cons_succ]
        refine wpAnyG_one (i := 6) rfl (by kernel_rfl) (by rfl) (fun K hK => ?_)
        go_simp
        refine (HEN'.out w4 (HR.out.grow (HB3.out.trans (Grow.of_drew hb4)))).mono ?_
        rintro e w5 ⟨A5, c5, rfl, -, -, hn5', hb5⟩
        have hs2 : ∀ wg, Grow w5 wg → (convert 22 9 (.slice A5 E c5)).run Try.prog wg = .ok (.string S) wg := fun wg hg => by
          rw [← HSS.out]
          exact conv_at E c5 hn5' HE.out wg hg
        have hg35 : Grow w3 w5 := (Grow.of_drew hb4).trans hb5
        have hs3 : ∀ wg, Grow w5 wg → (convert 22 9 (.slice none 0 0)).run Try.prog wg = .ok (.string (strOfNums [])) wg := fun wg hg => conv_at (W := w5) 0 0 Nums.none_ rfl wg hg
        refine hK.out _ _ (hb5) ?_
        clear hK K
        try simp only [Act.put, List.setIfInBounds_toArray, List.set_cons_zero, List.set_cons_succ]
        refine wpAnyG_take (i := 7) (v := ?v27) rfl (by kernel_rfl) (by kernel_rfl) (by kernel_rfl) (fun _ _ _ h => h) (by rfl) ?h27 ?r27
        case h27 => (intro wg hSw; go_simp <;> with_reducible rfl)
        simp only [Act.put, List.setIfInBounds_toArray, List.set_cons_zero, List.set_cons_succ]
        refine wpAnyG_take (i := 8) (v := ?v28) rfl (by kernel_rfl) (by kernel_rfl) (by kernel_rfl) (fun _ _ _ h => h) (by rfl) ?h28 ?r28
        case h28 => (intro wg hSw; go_simp <;> with_reducible rfl)
        simp only [Act.put, List.setIfInBounds_toArray, List.set_cons_zero, List.set_cons_succ]
        refine wpAnyG_take (i := 9) (v := ?v29) rfl (by kernel_rfl) (by kernel_rfl) (by kernel_rfl) (fun _ _ _ h => h) (by rfl) ?h29 ?r29
        case h29 => (intro wg hSw; go_simp <;> with_reducible rfl)
        simp only [Act.put, List.setIfInBounds_toArray, List.set_cons_zero, List.set_cons_succ]
        refine wpAnyG_take (i := 10) (v := ?v30) rfl (by kernel_rfl) (by kernel_rfl) (by kernel_rfl) (fun _ _ _ h => h) (by rfl) ?h30 ?r30
        case h30 => (intro wg hSw; go_simp <;> with_reducible rfl)
        simp only [Act.put, List.setIfInBounds_toArray, List.set_cons_zero, List.set_cons_succ]
        refine wpAnyG_take (i := 11) (v := ?v31) rfl (by kernel_rfl) (by kernel_rfl) (by kernel_rfl) (fun _ _ _ h => h) (by rfl) ?h31 ?r31
        case h31 => (intro wg hSw; go_simp <;> with_reducible rfl)
        simp only [Act.put, List.setIfInBounds_toArray, List.set_cons_zero, List.set_cons_succ]
        refine wpAnyG_take (i := 12) (v := ?v32) rfl (by kernel_rfl) (by kernel_rfl) (by kernel_rfl) (fun _ _ _ h => h) (by rfl) ?h32 ?r32
        case h32 => (intro wg hSw; go_simp <;> with_reducible rfl)
        simp only [Act.put, List.setIfInBounds_toArray, List.set_cons_zero, List.set_cons_succ]
        refine wpAnyG_take (i := 13) (v := ?v33) rfl (by kernel_rfl) (by kernel_rfl) (by kernel_rfl) (fun _ _ _ h => h) (by rfl) ?h33 ?r33
        case h33 => (intro wg hSw; go_simp <;> with_reducible rfl)
        simp only [Act.put, List.setIfInBounds_toArray, List.set_cons_zero, List.set_cons_succ]
        refine wpAnyG_take (i := 14) (v := ?v34) rfl (by kernel_rfl) (by kernel_rfl) (by kernel_rfl) (fun _ _ _ h => h) (by rfl) ?h34 ?r34
        case h34 => (intro wg hSw; go_simp <;> with_reducible rfl)
        simp only [Act.put, List.setIfInBounds_toArray, List.set_cons_zero, List.set_cons_succ]
        refine wpAnyG_take (i := 15) (v := ?v35) rfl (by kernel_rfl) (by kernel_rfl) (by kernel_rfl) (fun _ _ _ h => h) (by rfl) ?h35 ?r35
        case h35 => (intro wg hSw; go_simp <;> with_reducible rfl)
        simp only [Act.put, List.setIfInBounds_toArray, List.set_cons_zero, List.set_cons_succ]
        refine wpAnyG_take (i := 16) (v := ?v36) rfl (by kernel_rfl) (by kernel_rfl) (by kernel_rfl) (fun _ _ _ h => h) (by rfl) ?h36 ?r36
        case h36 => (intro wg hSw; go_simp <;> with_reducible rfl)
        simp only [Act.put, List.setIfInBounds_toArray, List.set_cons_zero, List.set_cons_succ]
        refine wpAnyG_take (i := 17) (v := ?v37) rfl (by kernel_rfl) (by kernel_rfl) (by kernel_rfl) (fun _ _ _ h => h) (by rfl) ?h37 ?r37
        case h37 => (intro wg hSw; go_simp <;> with_reducible rfl)
        simp only [Act.put, List.setIfInBounds_toArray, List.set_cons_zero, List.set_cons_succ]
        refine wpAnyG_take (i := 18) (v := ?v38) rfl (by kernel_rfl) (by kernel_rfl) (by kernel_rfl) (fun _ _ _ h => h) (by rfl) ?h38 ?r38
        case h38 => (intro wg hSw; go_simp <;> with_reducible rfl)
        simp only [Act.put, List.setIfInBounds_toArray, List.set_cons_zero, List.set_cons_succ]
        refine wpAnyG_take (i := 19) (v := ?v39) rfl (by kernel_rfl) (by kernel_rfl) (by kernel_rfl) (fun _ _ _ h => h) (by rfl) ?h39 ?r39
        case h39 => (intro wg hSw; go_simp <;> with_reducible rfl)
        simp only [Act.put, List.setIfInBounds_toArray, List.set_cons_zero, List.set_cons_succ]
        refine wpAnyG_take (i := 20) (v := ?v40) rfl (by kernel_rfl) (by kernel_rfl) (by kernel_rfl) (fun _ _ _ h => h) (by rfl) ?h40 ?r40
        case h40 => (intro wg hSw; go_simp <;> with_reducible rfl)
        simp only [Act.put, List.setIfInBounds_toArray, List.set_cons_zero, List.set_cons_succ]
        refine wpAnyG_take (i := 21) (v := ?v41) rfl (by kernel_rfl) (by kernel_rfl) (by kernel_rfl) (fun _ _ _ h => h) (by rfl) ?h41 ?r41
        case h41 => (intro wg hSw; go_simp <;> with_reducible rfl)
        simp only [Act.put, List.setIfInBounds_toArray, List.set_cons_zero, List.set_cons_succ]
        refine wpAnyG_take (i := 22) (v := ?v42) rfl (by kernel_rfl) (by kernel_rfl) (by kernel_rfl) (fun _ _ _ h => h) (by rfl) ?h42 ?r42
        case h42 => (intro wg hSw; go_simp <;> with_reducible rfl)
        simp only [Act.put, List.setIfInBounds_toArray, List.set_cons_zero, List.set_cons_succ]
        refine wpAnyG_done (by kernel_rfl) ?_
        clear hs1 hs2 hs3
        go_wp2
        go_ret
        exact ⟨rfl, HB3.out.trans hg35⟩
end Go.Proofs.Ytoapfegmipopkaa
