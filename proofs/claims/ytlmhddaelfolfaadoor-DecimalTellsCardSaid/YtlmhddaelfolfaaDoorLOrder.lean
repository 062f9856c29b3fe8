/-
  DecimalOrder comes to true, whatever it is called with.
-/
import Derived.Test.YtlmhddaelfolfaaDoorLBack
import Derived.Deep.CutRange
import Derived.Deep.CutBlock
namespace Go.Proofs.YtlmhddaelfolfaaDoor
open Go.RowKit Go.Lib

theorem cmp_trans (A B C : Int) : (compareInt A B = compareInt B C → compareInt A C = compareInt A B) ∧ (compareInt A B = 0 → compareInt A C = compareInt B C) ∧ (compareInt B C = 0 → compareInt A C = compareInt A B) := by
  rcases cmp_cases A B with ⟨h, e⟩ | ⟨h, e⟩ | ⟨h, e⟩ <;> rcases cmp_cases B C with ⟨h', e'⟩ | ⟨h', e'⟩ | ⟨h', e'⟩ <;> rcases cmp_cases A C with ⟨h'', e''⟩ | ⟨h'', e''⟩ | ⟨h'', e''⟩ <;>
    rw [e, e', e''] <;> refine ⟨?_, ?_, ?_⟩ <;> intro k <;> omega

theorem worth_inj {m e n f : Int} (hm : In m) (hn : In n) (h1 : rightB m e = true) (h2 : rightB n f = true) (h : worth m e = worth n f) : m = n ∧ e = f := by
  have x1 := right_exp hm h1
  have x2 := right_exp hn h2
  rw [worth_right h1, worth_right h2] at h
  rcases (rightB_iff hm).1 h1 with ⟨rfl, rfl⟩ | ⟨hq, _⟩
  · rcases (rightB_iff hn).1 h2 with ⟨rfl, rfl⟩ | ⟨hq, _⟩
    · exact ⟨rfl, rfl⟩
    · rw [Int.zero_mul] at h
      exact absurd h.symm (mul_ne hq _)
  · rcases (rightB_iff hn).1 h2 with ⟨rfl, rfl⟩ | ⟨hq', _⟩
    · rw [Int.zero_mul] at h
      exact absurd h (mul_ne hq _)
    · have a := zs_of (e + 32768).toNat ((e + 32768).toNat + (f + 32768).toNat + 1) m hq (by omega)
      have b := zs_of (f + 32768).toNat ((e + 32768).toNat + (f + 32768).toNat + 1) n hq' (by omega)
      rw [h, b] at a
      have hef : e = f := by omega
      subst hef
      have hp := pow_pos10 (e + 32768).toNat
      exact ⟨Int.eq_of_mul_eq_mul_right (by omega) h, rfl⟩

theorem cmp_zero {m e n f : Int} (hm : In m) (hn : In n) (h1 : rightB m e = true) (h2 : rightB n f = true) : (compareInt (worth m e) (worth n f) == 0) = (m == n && e == f) := by
  by_cases hq : m = n ∧ e = f
  · obtain ⟨rfl, rfl⟩ := hq
    rw [cmp_eq]
    simp
  · have : compareInt (worth m e) (worth n f) ≠ 0 := fun h => by
      rcases cmp_cases (worth m e) (worth n f) with ⟨_, k⟩ | ⟨k, _⟩ | ⟨_, k⟩
      · rw [k] at h; cases h
      · exact hq (worth_inj hm hn h1 h2 k)
      · rw [k] at h; cases h
    have r : (m == n && e == f) = false := by simpa using hq
    rw [r]
    simpa using this

theorem worth_of {n q j : Int} (hn : In n) (h : norm n 0 = ((q, j), true)) : worth q j = n * 10 ^ (0 + 32768 : Int).toNat := by
  have h4 := rightB_of (norm_right (e := 0) hn (by rw [h]))
  rw [h] at h4
  simp only at h4
  by_cases h0 : n = 0
  · subst h0
    rw [norm_zero] at h
    cases h
    rw [worth_zero, Int.zero_mul]
  · obtain ⟨q', i, hq, hq0, hi⟩ := parts_in hn h0
    rw [norm_of hq hq0 (by omega)] at h
    split at h
    · cases h
      rw [worth_right h4, hq, Int.mul_assoc, ← Int.pow_add]
      congr 2
      omega
    · cases h

theorem cmp_ints {m n a b c d : Int} (hm : In m) (hn : In n) (h1 : norm m 0 = ((a, b), true)) (h2 : norm n 0 = ((c, d), true)) : compareInt (worth a b) (worth c d) = compareInt m n := by
  rw [worth_of hm h1, worth_of hn h2]
  generalize (0 + 32768 : Int).toNat = k
  exact cmp_mul _ _ (pow_pos10 k)

theorem cmp_negs {m e n f : Int} (hm : In m) (hn : In n) (hm' : In (-m)) (hn' : In (-n)) (h1 : rightB m e = true) (h2 : rightB n f = true) : compareInt (worth (-m) e) (worth (-n) f) = -compareInt (worth m e) (worth n f) := by
  rw [(worth_neg h1 hm hm').2, (worth_neg h2 hn hn').2, cmp_neg]

theorem grow_new3' (w : World) (a b c : Obj) : Grow w (((w.alloc a).alloc b).alloc c) := (grow_new2 _ _ _).trans (grow_new _ _)

set_option maxRecDepth 10000 in
set_option maxHeartbeats 3200000 in
theorem lorder_walk (a1 a2 b1 b2 c1 c2 m n : Int) (w : World) (ha1 : In a1) (ha2 : In a2) (hb1 : In b1) (hb2 : In b2) (hc1 : In c1) (hc2 : In c2) (hm : In m) (hn : In n) (hL : Laid w) :
    Calls Tryd.prog 6 #[.agg #[.int .i64 a1, .int .i64 a2], .agg #[.int .i64 b1, .int .i64 b2], .agg #[.int .i64 c1, .int .i64 c2], .int .i64 m, .int .i64 n] w fun x w' => x = .returned (.bool true) ∧ Grow w w' := by
  have HS := Lib.hid (fun W (h : Laid W) => small_walk W h)
  have HL := Lib.hid hL
  have HAB := Lib.hid (k_cmp a1 a2 b1 b2 _ ha1 ha2 hb1 hb2 rfl)
  have HBC := Lib.hid (k_cmp b1 b2 c1 c2 _ hb1 hb2 hc1 hc2 rfl)
  have HAC := Lib.hid (k_cmp a1 a2 c1 c2 _ ha1 ha2 hc1 hc2 rfl)
  have HBA := Lib.hid (k_cmp b1 b2 a1 a2 _ hb1 hb2 ha1 ha2 (cmp_swap (worth a1 a2) (worth b1 b2)))
  have HTR := Lib.hid (cmp_trans (worth a1 a2) (worth b1 b2) (worth c1 c2))
  have hxr := cmp_range (worth a1 a2) (worth b1 b2)
  have HZ := Lib.hid (fun h1 h2 => cmp_zero (m := a1) (e := a2) (n := b1) (f := b2) ha1 hb1 h1 h2)
  have HNG := Lib.hid (fun (h1 : rightB a1 a2 = true) (h2 : rightB b1 b2 = true) (i1 : In (-a1)) (i2 : In (-b1)) => k_cmp (-a1) a2 (-b1) b2 _ i1 ha2 i2 hb2 (cmp_negs ha1 hb1 i1 i2 h1 h2))
  have HRA := Lib.hid (fun W => right_any a1 a2 W ha1 ha2)
  have HRB := Lib.hid (fun W => right_any b1 b2 W hb1 hb2)
  obtain ⟨q, j, hq, iq, ij, -, -⟩ := of_parts hm
  obtain ⟨p, i, hp, ip, ii, -, -⟩ := of_parts hn
  have HOM := Lib.hid (k_of m q j true hm hq)
  have HON := Lib.hid (k_of n p i true hn hp)
  have HMN := Lib.hid (k_cmp q j p i _ iq ij ip ii (cmp_ints hm hn hq hp))
  have l1 := ha1.1; have l2 := ha1.2; have l3 := hb1.1; have l4 := hb1.2
  clear hL hq hp iq ij ip ii ha1 ha2 hb1 hb2 hc1 hc2 hm hn
  generalize compareInt (worth a1 a2) (worth b1 b2) = X at *
  generalize compareInt (worth b1 b2) (worth c1 c2) = Y at *
  generalize compareInt (worth a1 a2) (worth c1 c2) = Z at *
  go_enter Tryd.func6, Tryd.ntmps6
  go_wp2_with fail
  refine (HS.out _ (HL.out.grow (grow_new3 _ _ _ _))).mono ?_
  rintro x w1 ⟨rfl, hg⟩
  have hA := ((boxed_new w (.int .i64 a1) (.int .i64 a2) 23).grow (grow_new2 _ _ _)).grow hg
  have hB := ((boxed_new (w.alloc (.cells #[.int .i64 a1, .int .i64 a2] 23)) (.int .i64 b1) (.int .i64 b2) 23).grow (grow_new _ _)).grow hg
  have hC := (boxed_new ((w.alloc (.cells #[.int .i64 a1, .int .i64 a2] 23)).alloc (.cells #[.int .i64 b1, .int .i64 b2] 23)) (.int .i64 c1) (.int .i64 c2) 23).grow hg
  have hs1 : (w.alloc (.cells #[.int .i64 a1, .int .i64 a2] 23)).heap.size = w.heap.size + 1 := by simp
  have hs2 : ((w.alloc (.cells #[.int .i64 a1, .int .i64 a2] 23)).alloc (.cells #[.int .i64 b1, .int .i64 b2] 23)).heap.size = w.heap.size + 2 := by simp
  rw [hs1] at hB
  rw [hs2] at hC
  have a10 := hA.fst; have a11 := hA.snd; have b10 := hB.fst; have b11 := hB.snd
  have HA1 := Lib.hid hA
  have HB1 := Lib.hid hB
  have HC1 := Lib.hid hC
  have HG1 := Lib.hid ((grow_new3 w _ _ _).trans hg)
  clear hg hA hB hC hs1 hs2 HS
  go_wp2_with fail
  refine (HAB.out _ (HL.out.grow HG1.out)).mono ?_
  rintro x w2 ⟨rfl, hg⟩
  have hB := HB1.out.grow hg
  have hC := HC1.out.grow hg
  have b20 := hB.fst; have b21 := hB.snd; have c20 := hC.fst; have c21 := hC.snd
  have HA2 := Lib.hid (HA1.out.grow hg)
  have HB2 := Lib.hid hB
  have HC2 := Lib.hid hC
  have HG2 := Lib.hid (HG1.out.trans hg)
  clear hg hB hC HAB HA1 HB1 HC1 HG1 a10 a11 b10 b11
  go_wp2_with fail
  refine (HBC.out _ (HL.out.grow HG2.out)).mono ?_
  rintro x w3 ⟨rfl, hg⟩
  have hA := HA2.out.grow hg
  have hC := HC2.out.grow hg
  have a30 := hA.fst; have a31 := hA.snd; have c30 := hC.fst; have c31 := hC.snd
  have HA3 := Lib.hid hA
  have HB3 := Lib.hid (HB2.out.grow hg)
  have HG3 := Lib.hid (HG2.out.trans hg)
  clear hg hA hC HBC HA2 HB2 HC2 HG2 b20 b21 c20 c21
  go_wp2_with fail
  refine (HAC.out _ (HL.out.grow HG3.out)).mono ?_
  rintro x w4 ⟨rfl, hg⟩
  have hA := HA3.out.grow hg
  have hB := HB3.out.grow hg
  have a40 := hA.fst; have a41 := hA.snd; have b40 := hB.fst; have b41 := hB.snd
  have HA4 := Lib.hid hA
  have HB4 := Lib.hid hB
  have HG4 := Lib.hid (HG3.out.trans hg)
  clear hg hA hB HAC HA3 HB3 HG3 a30 a31 c30 c31
  have hx1 := hxr.1
  have hx2 := hxr.2
  clear hxr
  obtain ⟨X0, hX0⟩ : ∃ X0, X0 = X := ⟨_, rfl⟩
  have HX0 := Lib.hid hX0
  clear hX0
  go_upto_region 5 with fail
  go_cut [12, 67] from 12 to 67 (fun s12 z wx => s12 = .int .i64 X0 ∧ z = .bool false ∧ Grow w4 wx)
  case first =>
    obtain ⟨t1, t2, t3⟩ := HTR.out
    have hneg : IntKind.i64.wrap X = X := by rw [IntKind.wrap_i64]; omega
    go_wp2_with fail
    refine (HBA.out _ (HL.out.grow HG4.out)).mono ?_
    rintro x w5 ⟨rfl, hg⟩
    have HG5 := Lib.hid hg
    clear hg
    by_cases e1 : X = Y
    · have z1 := t1 e1
      subst e1
      subst z1
      clear t1 t2 t3
      by_cases e3 : Z = 0
      · subst e3
        go_wp2
        go_meet
        case rel => exact ⟨by rw [HX0.out], by first | rfl | (congr 1; simp; omega), HG5.out⟩
      · have e3b : (Z == 0) = false := by simpa using e3
        go_wp2
        go_meet
        case rel => exact ⟨by rw [HX0.out], by first | rfl | (congr 1; simp; omega), HG5.out⟩
    · have e1b : (X == Y) = false := by simpa using e1
      by_cases e3 : X = 0
      · have z1 := t2 e3
        subst e3
        subst z1
        have e5 : (Z == 0) = false := by simpa using fun h => e1 h.symm
        clear t1 t2 t3 e1
        go_wp2
        go_meet
        case rel => exact ⟨by rw [HX0.out], by first | rfl | (congr 1; simp; omega), HG5.out⟩
      · have e3b : (X == 0) = false := by simpa using e3
        by_cases e6 : Y = 0
        · have z1 := t3 e6
          subst e6
          subst z1
          clear t1 t2 t3 e1 e3
          go_wp2
          go_meet
          case rel => exact ⟨by rw [HX0.out], by first | rfl | (congr 1; simp; omega), HG5.out⟩
        · have e6b : (Y == 0) = false := by simpa using e6
          clear t1 t2 t3 e1 e3 e6
          go_wp2
          go_meet
          case rel => exact ⟨by rw [HX0.out], by first | rfl | (congr 1; simp; omega), HG5.out⟩
  case rest =>
    obtain ⟨rfl, rfl, hg⟩ := hcut
    have hX0 := HX0.out
    subst hX0
    have hA := HA4.out.grow hg
    have hB := HB4.out.grow hg
    have HA5 := Lib.hid hA
    have HB5 := Lib.hid hB
    have HG5 := Lib.hid (HG4.out.trans hg)
    clear hg hA hB HA4 HB4 HG4 a40 a41 b40 b41 HTR HBA
    have heq := dec_eq a1 a2 b1 b2
    have hk : (m < n ∧ compareInt m n = -1) ∨ (¬ m < n ∧ ¬ n < m ∧ compareInt m n = 0) ∨ (n < m ∧ compareInt m n = 1) := by
      rcases cmp_cases m n with h | ⟨h, e⟩ | h
      · exact .inl h
      · exact .inr (.inl ⟨by omega, by omega, e⟩)
      · exact .inr (.inr h)
    rcases hk with ⟨q1, e1⟩ | ⟨q1, q2, e1⟩ | ⟨q1, e1⟩
    all_goals
      rw [e1] at HMN
      clear e1
      go_wp2_with fail
      refine (HOM.out _).mono ?_
      rintro x w6 ⟨rfl, hg6⟩
      go_wp2_with fail
      refine (HON.out _).mono ?_
      rintro x w7 ⟨rfl, hg7⟩
      have HG7 := Lib.hid (HG5.out.trans (hg6.trans hg7))
      have HA7 := Lib.hid (HA5.out.grow (hg6.trans hg7))
      have HB7 := Lib.hid (HB5.out.grow (hg6.trans hg7))
      clear hg6 hg7 HG5 HA5 HB5 HOM HON
      go_wp2_with fail
      refine (HMN.out _ (HL.out.grow HG7.out)).mono ?_
      rintro x w8 ⟨rfl, hg⟩
      have hA := HA7.out.grow hg
      have a80 := hA.fst
      have a81 := hA.snd
      have HA8 := Lib.hid hA
      have HB8 := Lib.hid (HB7.out.grow hg)
      have HG8 := Lib.hid (HG7.out.trans hg)
      clear hg hA HG7 HA7 HB7 HMN q1
      go_wp2_with fail
      refine (HRA.out _).mono ?_
      rintro x w9 ⟨rfl, hg⟩
      have hB := HB8.out.grow hg
      have b90 := hB.fst
      have b91 := hB.snd
      have HA9 := Lib.hid (HA8.out.grow hg)
      have HB9 := Lib.hid hB
      have HG9 := Lib.hid (HG8.out.trans hg)
      clear hg hB HG8 HA8 HB8 HRA a80 a81
      obtain ⟨r1, hr1⟩ : ∃ r, rightB a1 a2 = r := ⟨_, rfl⟩
      rw [hr1]
      have HR1 := Lib.hid hr1
      clear hr1
      cases r1
      · go_wp2
        go_ret
        exact ⟨rfl, HG9.out⟩
      · go_wp2_with fail
        refine (HRB.out _).mono ?_
        rintro x w10 ⟨rfl, hg⟩
        have hA := HA9.out.grow hg
        have hB := HB9.out.grow hg
        have a100 := hA.fst
        have a101 := hA.snd
        have b100 := hB.fst
        have b101 := hB.snd
        have HG10 := Lib.hid (HG9.out.trans hg)
        clear hg hA hB HG9 HA9 HB9 HRB b90 b91
        obtain ⟨r2, hr2⟩ : ∃ r, rightB b1 b2 = r := ⟨_, rfl⟩
        rw [hr2]
        have HR2 := Lib.hid hr2
        clear hr2
        cases r2
        · go_wp2
          go_ret
          exact ⟨rfl, HG10.out⟩
        · by_cases g1 : -9223372036854775808 < a1
          · by_cases g2 : -9223372036854775808 < b1
            · have hbe := HZ.out HR1.out HR2.out
              have HN := Lib.hid (HNG.out HR1.out HR2.out ⟨by omega, by omega⟩ ⟨by omega, by omega⟩)
              have hw1 : IntKind.i64.wrap (-a1) = -a1 := by rw [IntKind.wrap_i64]; omega
              have hw2 : IntKind.i64.wrap (-b1) = -b1 := by rw [IntKind.wrap_i64]; omega
              have hw3 : IntKind.i64.wrap (-X0) = -X0 := by rw [IntKind.wrap_i64]; omega
              clear HZ HNG HR1 HR2
              go_wp2_with fail
              refine (HN.out _ (HL.out.grow HG10.out)).mono ?_
              rintro x w11 ⟨rfl, hg⟩
              have HG11 := Lib.hid (HG10.out.trans hg)
              clear hg HN hbe heq
              go_wp2
              go_ret
              exact ⟨rfl, HG11.out⟩
            · go_wp2
              go_ret
              exact ⟨rfl, HG10.out⟩
          · go_wp2
            go_ret
            exact ⟨rfl, HG10.out⟩
end Go.Proofs.YtlmhddaelfolfaaDoor
