/-
  The law CursorStays at every input.
-/
import Derived.Test.YteijplolmpffmaaActs
namespace Go.Proofs.Yteijplolmpffmaa
open Go.RowKit

set_option maxRecDepth 10000 in
set_option maxHeartbeats 800000 in
theorem stays_no (A1 A2 : Option Addr) (n m c1 c2 : Nat) (x : Int) (w : World) (h1 : n ≤ 9223372036854775807) (h2 : m ≤ 9223372036854775807) (h : ¬ (n ≤ 500 ∧ m ≤ 100 ∧ x ≠ 0)) :
    Calls Try.prog 5 #[.slice A1 n c1, .int .i64 x, .slice A2 m c2] w (Fine w) := by
  have hs := small_any w
  have HS := Lib.hid hs
  clear hs
  by_cases hn : n ≤ 500
  · by_cases hm : m ≤ 100
    · obtain rfl : x = 0 := Classical.byContradiction fun hx => h ⟨hn, hm, hx⟩
      clear h
      go_enter Try.func5, Try.ntmps5
      go_wp2_with fail
      refine (HS.out).mono ?_
      rintro e w1 ⟨rfl, hb1⟩
      go_wp2
      go_ret
      exact ⟨rfl, hb1⟩
    · have hm' : 100 < m := by omega
      clear h hm
      go_enter Try.func5, Try.ntmps5
      go_wp2_with fail
      refine (HS.out).mono ?_
      rintro e w1 ⟨rfl, hb1⟩
      go_wp2
      go_ret
      exact ⟨rfl, hb1⟩
  · have hn' : 500 < n := by omega
    clear h hn
    go_enter Try.func5, Try.ntmps5
    go_wp2_with fail
    refine (HS.out).mono ?_
    rintro e w1 ⟨rfl, hb1⟩
    go_wp2
    go_ret
    exact ⟨rfl, hb1⟩

theorem stays_state (bs : List Int) (n : Nat) (x : Int) (h : bs.length = n) (hx : x ≠ 0) : failS x (takeS ((n : Int) / 2) (openS bs 3)).2 = ⟨[], 3 + (n : Int) / 2, x, 3 + (n : Int) / 2⟩ := by
  have e : takeS ((n : Int) / 2) (openS bs 3) = (bs.take (n / 2), passS (n / 2) (openS bs 3)) := by
    unfold takeS
    rw [if_neg (by simp [openS, h]; omega)]
    simp [openS]
    constructor <;> congr 1 <;> omega
  rw [e]
  have c3 : clampS 3 = 3 := by decide
  simp [failS, passS, openS, c3, hx]

set_option linter.unusedSimpArgs false
set_option maxRecDepth 10000 in
set_option maxHeartbeats 3200000 in
theorem stays_yes (A1 A2 : Option Addr) (n m c1 c2 : Nat) (bs : List Int) (x : Int) (l : List (Int × Int)) (w : World) (h1 : bs.length = n) (h2 : l.length = m) (hn : n ≤ 500) (hm : m ≤ 100) (hx : x ≠ 0) (e1 : A1 = none → c1 = 0)
    (b1 : Byt bs) (i2 : I64 l) (r1 : Nums .u8 w w.heap.size A1 bs) (r2 : Acts w w.heap.size A2 l) : Calls Try.prog 5 #[.slice A1 n c1, .int .i64 x, .slice A2 m c2] w (Fine w) := by
  have hxb : (x == 0) = false := by simpa using hx
  have HG0 := Lib.hid (open_good bs 3 b1 (by omega))
  have HST := Lib.hid (stays_state bs n x h1 hx)
  have HS := Lib.hid (small_any w)
  have H1 := Lib.hid h1
  have H2 := Lib.hid h2
  have R1 := Lib.hid r1
  have R2 := Lib.hid r2
  have I2 := Lib.hid i2
  clear h1 h2 r1 r2 b1 i2
  go_enter Try.func5, Try.ntmps5
  go_wp2_with fail
  refine (HS.out).mono ?_
  rintro e w1 ⟨rfl, hb1⟩
  have R1' := Lib.hid (R1.out.grow hb1)
  have hz1 := hb1.size
  have HB1 := Lib.hid hb1
  clear R1 hb1 HS
  go_wp2_with fail
  refine (open_any A1 n c1 bs 3 w1 H1.out (by omega) e1 R1'.out).mono ?_
  rintro e w2 ⟨c, rfl, hc1, hc2, hb2, HC⟩
  have IC := Lib.hid (HC (fun k => k = c) rfl (fun k hk => .inr (.inl hk)))
  have HB2 := Lib.hid (HB1.out.trans hb2)
  clear HC hb2 R1' HB1
  go_wp2_with fail
  refine (take_c _ w2 IC.out HG0.out).mono ?_
  rintro e w3 ⟨v, -, rfl, ic, k3⟩
  have IC3 := Lib.hid ic
  have K3 := Lib.hid k3
  clear ic k3 IC
  go_wp2_with fail
  refine (fail_any x w3 IC3.out).mono ?_
  rintro e w4 ⟨rfl, ic, k4⟩
  rw [HST.out] at ic
  have IC4 := Lib.hid ic
  have K4 := Lib.hid (K3.out.trans k4)
  clear ic k4 IC3 K3
  go_wp2_with fail
  generalize hw5 : w4.alloc _ = w5
  obtain ⟨f, hf⟩ : ∃ f, w4.heap.size = f := ⟨_, rfl⟩
  obtain ⟨P, hP⟩ : ∃ P, 3 + (n : Int) / 2 = P := ⟨_, rfl⟩
  have hb5 : Grow w4 w5 := by rw [← hw5]; exact grow_new _ _
  have hf5 : w5.heap[f]? = some (.cells #[.int .i64 x, .int .i64 0, .int .i64 P] 40 (0, 0)) := by rw [← hw5, ← hf, ← hP]; exact heap_alloc_new w4 _
  have hfl : f < w5.heap.size := by rw [← hw5, ← hf]; simp
  rw [hP] at IC4
  have hcl := IC4.out.lt
  rw [hf] at hcl
  have IC5 := Lib.hid (IC4.out.grow hb5)
  have HG := Lib.hid (show Good ⟨[], P, x, P⟩ from ⟨byt_nil, by show 0 ≤ P; omega, by show P + (0 : Nat) ≤ _; omega, fun _ => rfl⟩)
  have HD := Lib.hid (show Dead ⟨[], P, x, P⟩ from ⟨rfl, hx⟩)
  have K5 := Lib.hid (K4.out.trans (Kept.of_grow hb5))
  have HF5 := Lib.hid hf5
  rw [hf]
  clear hw5 hf5 hb5 hP hf IC4 K4 HST HG0
  generalize hs : (⟨[], P, x, P⟩ : St) = s at *
  have hsb : s.bs.length = 0 := by rw [← hs]; rfl
  have hsp : s.p = P := by rw [← hs]
  have hse : s.e = x := by rw [← hs]
  have hsq : s.q = P := by rw [← hs]
  have HSB := Lib.hid hsb
  have HSP := Lib.hid hsp
  have HSE := Lib.hid hse
  have HSQ := Lib.hid hsq
  clear hs hsb hsp hse hsq
  have HQ : Hid (∀ wr, Kept (fun k => k = c) w5 wr → (wr.cell? ⟨f, 0, none⟩ = some (.int .i64 x) ∧ wr.cell? ⟨f, 1, none⟩ = some (.int .i64 0) ∧ wr.cell? ⟨f, 2, none⟩ = some (.int .i64 P)) ∧ f < wr.heap.size) := fun wr hk =>
    ⟨fault_cells ((hk.block f hfl (by omega)).trans HF5.out), Nat.lt_of_lt_of_le hfl hk.size⟩
  have HSW := Lib.hid (show ∀ k, k = c → w.heap.size ≤ k by intro k hk; omega)
  have HB5 := Lib.hid (Kept.grow HB2.out K5.out HSW.out)
  have R5 := Lib.hid (R2.out.grow (Nat.le_refl _) HB5.out)
  clear R2 HB2 K5 HF5
  go_loopg [10] m (fun gk i wr => ∃ k : Nat, k ≤ m ∧ gk = m - k ∧ i = .int .i64 k ∧ IsC 44 (fun k => k = c) wr c s ∧ Kept (fun k => k = c) w5 wr)
  case atStart => exact ⟨0, Nat.zero_le _, rfl, rfl, IC5.out, Kept.refl _ _⟩
  case round =>
    obtain ⟨k, hk, rfl, rfl, ic, kp⟩ := hrel
    have IC := Lib.hid ic
    have KP := Lib.hid kp
    have hk0 := (HQ.out wr kp).2
    clear ic kp IC5
    by_cases hlt : k < m
    · have hkl : k < l.length := by rw [H2.out]; exact hlt
      obtain ⟨b, off, rfl, hb, hcl2⟩ := R5.out.kept HB5.out.size KP.out HSW.out (by omega)
      have hI := I2.out.at_ k
      have hc0 := (hcl2 k hkl).1
      have hc1' := (hcl2 k hkl).2
      clear hcl2
      generalize l.getD k (0, 0) = a at *
      obtain ⟨d, y⟩ := a
      simp only at hc0 hc1' hI
      go_upto_block 2 with fail
      go_cut [11] from 44 to 126 (fun z wx => z = .bool true ∧ IsC 44 (fun k => k = c) wx c s ∧ Kept (fun k => k = c) w5 wx)
      case first =>
        by_cases d0 : d = 0
        · subst d0
          go_wp2_with fail
          refine (dead_byte wr IC.out HG.out HD.out).mono ?_
          rintro e wx ⟨rfl, ic, kx⟩
          have ICX := Lib.hid ic
          have KPX := Lib.hid (KP.out.trans kx)
          clear ic kx
          go_wp2_with fail
          go_meet
          exact ⟨rfl, ICX.out, KPX.out⟩
        have d0' : (d == 0) = false := by simpa using d0
        by_cases d1 : d = 1
        · subst d1
          go_wp2_with fail
          refine (dead_num y wr IC.out HG.out HD.out hI.2).mono ?_
          rintro e wx ⟨rfl, ic, kx⟩
          have ICX := Lib.hid ic
          have KPX := Lib.hid (KP.out.trans kx)
          clear ic kx
          go_wp2_with fail
          go_meet
          exact ⟨rfl, ICX.out, KPX.out⟩
        have d1' : (d == 1) = false := by simpa using d1
        by_cases d2 : d = 2
        · subst d2
          go_wp2_with fail
          refine (dead_int wr IC.out HG.out HD.out).mono ?_
          rintro e wx ⟨rfl, ic, kx⟩
          have ICX := Lib.hid ic
          have KPX := Lib.hid (KP.out.trans kx)
          clear ic kx
          go_wp2_with fail
          go_meet
          exact ⟨rfl, ICX.out, KPX.out⟩
        have d2' : (d == 2) = false := by simpa using d2
        by_cases d3 : d = 3
        · subst d3
          go_wp2_with fail
          refine (dead_take y wr IC.out HG.out HD.out).mono ?_
          rintro e wx ⟨A, cap, rfl, ic, kx⟩
          have ICX := Lib.hid ic
          have KPX := Lib.hid (KP.out.trans kx)
          clear ic kx
          go_wp2_with fail
          go_meet
          exact ⟨rfl, ICX.out, KPX.out⟩
        have d3' : (d == 3) = false := by simpa using d3
        by_cases d4 : d = 4
        · subst d4
          go_wp2_with fail
          refine (dead_fail y wr IC.out HD.out).mono ?_
          rintro e wx ⟨rfl, ic, kx⟩
          have ICX := Lib.hid ic
          have KPX := Lib.hid (KP.out.trans kx)
          clear ic kx
          go_wp2_with fail
          go_meet
          exact ⟨rfl, ICX.out, KPX.out⟩
        have d4' : (d == 4) = false := by simpa using d4
        go_wp2_with fail
        go_meet
        exact ⟨rfl, IC.out, KP.out⟩
      case rest =>
        obtain ⟨rfl, ic, kx⟩ := hcut
        have ICX := Lib.hid ic
        have KPX := Lib.hid kx
        have hfw := (HQ.out wc kx).2
        have hq : ∀ wg, Grow wc.drew wg → wg.cell? ⟨f, 0, none⟩ = some (.int .i64 x) ∧ wg.cell? ⟨f, 1, none⟩ = some (.int .i64 0) ∧ wg.cell? ⟨f, 2, none⟩ = some (.int .i64 P) := fun wg hg => (HQ.out wg (KPX.out.trans (Kept.of_grow (Grow.of_drew hg)))).1
        have hq0 := fun wg hg => (hq wg hg).1
        have hq1 := fun wg hg => (hq wg hg).2.1
        have hq2 := fun wg hg => (hq wg hg).2.2
        clear ic kx hq hc0 hc1'
        go_wp2_with fail
        refine wp_region_grow (n := 32) rfl (by kernel_rfl) ?_
        refine wpAnyG_take (i := 0) (v := ?v1) rfl (by kernel_rfl) (by kernel_rfl) (by kernel_rfl) (fun _ _ _ h => h) (by rfl) ?h1 ?r1
        case h1 => (intro wg hSw; go_simp <;> with_reducible rfl)
        simp only [Act.put, List.setIfInBounds_toArray, List.set_cons_zero, List.set_cons_succ]
        refine wpAnyG_take (i := 1) (v := ?v2) rfl (by kernel_rfl) (by kernel_rfl) (by kernel_rfl) (fun _ _ _ h => h) (by rfl) ?h2 ?r2
        case h2 => (intro wg hSw; go_simp <;> with_reducible rfl)
        simp only [Act.put, List.setIfInBounds_toArray, List.set_cons_zero, List.set_cons_succ]
        refine wpAnyG_take (i := 2) (v := ?v3) rfl (by kernel_rfl) (by kernel_rfl) (by kernel_rfl) (fun _ _ _ h => h) (by rfl) ?h3 ?r3
        case h3 => (intro wg hSw; go_simp <;> with_reducible rfl)
        simp only [Act.put, List.setIfInBounds_toArray, List.set_cons_zero, List.set_cons_succ]
        refine wpAnyG_take (i := 3) (v := ?v4) rfl (by kernel_rfl) (by kernel_rfl) (by kernel_rfl) (fun _ _ _ h => h) (by rfl) ?h4 ?r4
        case h4 => (intro wg hSw; go_simp <;> with_reducible rfl)
        simp only [Act.put, List.setIfInBounds_toArray, List.set_cons_zero, List.set_cons_succ]
        refine wpAnyG_take (i := 4) (v := ?v5) rfl (by kernel_rfl) (by kernel_rfl) (by kernel_rfl) (fun _ _ _ h => h) (by rfl) ?h5 ?r5
        case h5 => (intro wg hSw; go_simp <;> with_reducible rfl)
        simp only [Act.put, List.setIfInBounds_toArray, List.set_cons_zero, List.set_cons_succ]
        refine wpAnyG_take (i := 5) (v := ?v6) rfl (by kernel_rfl) (by kernel_rfl) (by kernel_rfl) (fun _ _ _ h => h) (by rfl) ?h6 ?r6
        case h6 => (intro wg hSw; go_simp <;> with_reducible rfl)
        simp only [Act.put, List.setIfInBounds_toArray, List.set_cons_zero, List.set_cons_succ]
        refine wpAnyG_take (i := 7) (v := ?v7) rfl (by kernel_rfl) (by kernel_rfl) (by kernel_rfl) (fun _ _ _ h => h) (by rfl) ?h7 ?r7
        case h7 => (intro wg hSw; go_simp <;> with_reducible rfl)
        simp only [Act.put, List.setIfInBounds_toArray, List.set_cons_zero, List.set_cons_succ]
        refine wpAnyG_one (i := 6) rfl (by kernel_rfl) (by rfl) (fun K hK => ?_)
        go_simp
        refine (fault_1 _ (ICX.out.grow (Grow.refl _).drew) x P HSE.out HSQ.out).mono ?_
        rintro e w7 ⟨rfl, hb7⟩
        have hq : ∀ wg, Grow w7 wg → wg.cell? ⟨f, 0, none⟩ = some (.int .i64 x) ∧ wg.cell? ⟨f, 1, none⟩ = some (.int .i64 0) ∧ wg.cell? ⟨f, 2, none⟩ = some (.int .i64 P) := fun wg hg => (HQ.out wg (KPX.out.trans (Kept.of_grow ((Grow.of_drew hb7).trans hg)))).1
        have hp0 := fun wg hg => (hq wg hg).1
        have hp1 := fun wg hg => (hq wg hg).2.1
        have hp2 := fun wg hg => (hq wg hg).2.2
        clear hq0 hq1 hq2 hq
        refine hK.out _ _ (hb7) ?_
        clear hK K
        try simp only [Act.put, List.setIfInBounds_toArray, List.set_cons_zero, List.set_cons_succ]
        refine wpAnyG_take (i := 8) (v := ?v8) rfl (by kernel_rfl) (by kernel_rfl) (by kernel_rfl) (fun _ _ _ h => h) (by rfl) ?h8 ?r8
        case h8 => (intro wg hSw; go_simp <;> with_reducible rfl)
        simp only [Act.put, List.setIfInBounds_toArray, List.set_cons_zero, List.set_cons_succ]
        refine wpAnyG_take (i := 9) (v := ?v9) rfl (by kernel_rfl) (by kernel_rfl) (by kernel_rfl) (fun _ _ _ h => h) (by rfl) ?h9 ?r9
        case h9 => (intro wg hSw; go_simp <;> with_reducible rfl)
        simp only [Act.put, List.setIfInBounds_toArray, List.set_cons_zero, List.set_cons_succ]
        refine wpAnyG_take (i := 10) (v := ?v10) rfl (by kernel_rfl) (by kernel_rfl) (by kernel_rfl) (fun _ _ _ h => h) (by rfl) ?h10 ?r10
        case h10 => (intro wg hSw; go_simp <;> with_reducible rfl)
        simp only [Act.put, List.setIfInBounds_toArray, List.set_cons_zero, List.set_cons_succ]
        refine wpAnyG_take (i := 11) (v := ?v11) rfl (by kernel_rfl) (by kernel_rfl) (by kernel_rfl) (fun _ _ _ h => h) (by rfl) ?h11 ?r11
        case h11 => (intro wg hSw; go_simp <;> with_reducible rfl)
        simp only [Act.put, List.setIfInBounds_toArray, List.set_cons_zero, List.set_cons_succ]
        refine wpAnyG_take (i := 13) (v := ?v12) rfl (by kernel_rfl) (by kernel_rfl) (by kernel_rfl) (fun _ _ _ h => h) (by rfl) ?h12 ?r12
        case h12 => (intro wg hSw; go_simp <;> with_reducible rfl)
        simp only [Act.put, List.setIfInBounds_toArray, List.set_cons_zero, List.set_cons_succ]
        refine wpAnyG_one (i := 12) rfl (by kernel_rfl) (by rfl) (fun K hK => ?_)
        go_simp
        refine (end_1 _ (ICX.out.grow ((Grow.refl _).drew.trans hb7)) HG.out x P (by rw [HD.out.end_, HSE.out, HSQ.out])).mono ?_
        rintro e w8 ⟨rfl, hb8⟩
        have hq : ∀ wg, Grow w8 wg → wg.cell? ⟨f, 0, none⟩ = some (.int .i64 x) ∧ wg.cell? ⟨f, 1, none⟩ = some (.int .i64 0) ∧ wg.cell? ⟨f, 2, none⟩ = some (.int .i64 P) := fun wg hg => (HQ.out wg (KPX.out.trans (Kept.of_grow (((Grow.of_drew hb7).trans hb8).trans hg)))).1
        have hq2 := fun wg hg => (hq wg hg).2.2
        clear hp0 hp1 hp2 hq
        refine hK.out _ _ (hb8) ?_
        clear hK K
        try simp only [Act.put, List.setIfInBounds_toArray, List.set_cons_zero, List.set_cons_succ]
        refine wpAnyG_take (i := 14) (v := ?v13) rfl (by kernel_rfl) (by kernel_rfl) (by kernel_rfl) (fun _ _ _ h => h) (by rfl) ?h13 ?r13
        case h13 => (intro wg hSw; go_simp <;> with_reducible rfl)
        simp only [Act.put, List.setIfInBounds_toArray, List.set_cons_zero, List.set_cons_succ]
        refine wpAnyG_take (i := 15) (v := ?v14) rfl (by kernel_rfl) (by kernel_rfl) (by kernel_rfl) (fun _ _ _ h => h) (by rfl) ?h14 ?r14
        case h14 => (intro wg hSw; go_simp <;> with_reducible rfl)
        simp only [Act.put, List.setIfInBounds_toArray, List.set_cons_zero, List.set_cons_succ]
        refine wpAnyG_take (i := 16) (v := ?v15) rfl (by kernel_rfl) (by kernel_rfl) (by kernel_rfl) (fun _ _ _ h => h) (by rfl) ?h15 ?r15
        case h15 => (intro wg hSw; go_simp <;> with_reducible rfl)
        simp only [Act.put, List.setIfInBounds_toArray, List.set_cons_zero, List.set_cons_succ]
        refine wpAnyG_take (i := 17) (v := ?v16) rfl (by kernel_rfl) (by kernel_rfl) (by kernel_rfl) (fun _ _ _ h => h) (by rfl) ?h16 ?r16
        case h16 => (intro wg hSw; go_simp <;> with_reducible rfl)
        simp only [Act.put, List.setIfInBounds_toArray, List.set_cons_zero, List.set_cons_succ]
        refine wpAnyG_take (i := 18) (v := ?v17) rfl (by kernel_rfl) (by kernel_rfl) (by kernel_rfl) (fun _ _ _ h => h) (by rfl) ?h17 ?r17
        case h17 => (intro wg hSw; go_simp <;> with_reducible rfl)
        simp only [Act.put, List.setIfInBounds_toArray, List.set_cons_zero, List.set_cons_succ]
        refine wpAnyG_take (i := 19) (v := ?v18) rfl (by kernel_rfl) (by kernel_rfl) (by kernel_rfl) (fun _ _ _ h => h) (by rfl) ?h18 ?r18
        case h18 => (intro wg hSw; go_simp <;> with_reducible rfl)
        simp only [Act.put, List.setIfInBounds_toArray, List.set_cons_zero, List.set_cons_succ]
        refine wpAnyG_one (i := 20) rfl (by kernel_rfl) (by rfl) (fun K hK => ?_)
        go_simp
        refine (left_1 _ (ICX.out.grow (((Grow.refl _).drew.trans hb7).trans hb8)) 0 HSB.out).mono ?_
        rintro e w' ⟨rfl, rfl⟩
        refine hK.out _ _ (Grow.refl _) ?_
        clear hK K
        try simp only [Act.put, List.setIfInBounds_toArray, List.set_cons_zero, List.set_cons_succ]
        refine wpAnyG_take (i := 21) (v := ?v19) rfl (by kernel_rfl) (by kernel_rfl) (by kernel_rfl) (fun _ _ _ h => h) (by rfl) ?h19 ?r19
        case h19 => (intro wg hSw; go_simp <;> with_reducible rfl)
        simp only [Act.put, List.setIfInBounds_toArray, List.set_cons_zero, List.set_cons_succ]
        refine wpAnyG_take (i := 22) (v := ?v20) rfl (by kernel_rfl) (by kernel_rfl) (by kernel_rfl) (fun _ _ _ h => h) (by rfl) ?h20 ?r20
        case h20 => (intro wg hSw; go_simp <;> with_reducible rfl)
        simp only [Act.put, List.setIfInBounds_toArray, List.set_cons_zero, List.set_cons_succ]
        refine wpAnyG_take (i := 23) (v := ?v21) rfl (by kernel_rfl) (by kernel_rfl) (by kernel_rfl) (fun _ _ _ h => h) (by rfl) ?h21 ?r21
        case h21 => (intro wg hSw; go_simp <;> with_reducible rfl)
        simp only [Act.put, List.setIfInBounds_toArray, List.set_cons_zero, List.set_cons_succ]
        refine wpAnyG_take (i := 24) (v := ?v22) rfl (by kernel_rfl) (by kernel_rfl) (by kernel_rfl) (fun _ _ _ h => h) (by rfl) ?h22 ?r22
        case h22 => (intro wg hSw; go_simp <;> with_reducible rfl)
        simp only [Act.put, List.setIfInBounds_toArray, List.set_cons_zero, List.set_cons_succ]
        refine wpAnyG_take (i := 25) (v := ?v23) rfl (by kernel_rfl) (by kernel_rfl) (by kernel_rfl) (fun _ _ _ h => h) (by rfl) ?h23 ?r23
        case h23 => (intro wg hSw; go_simp <;> with_reducible rfl)
        simp only [Act.put, List.setIfInBounds_toArray, List.set_cons_zero, List.set_cons_succ]
        refine wpAnyG_take (i := 26) (v := ?v24) rfl (by kernel_rfl) (by kernel_rfl) (by kernel_rfl) (fun _ _ _ h => h) (by rfl) ?h24 ?r24
        case h24 => (intro wg hSw; go_simp <;> with_reducible rfl)
        simp only [Act.put, List.setIfInBounds_toArray, List.set_cons_zero, List.set_cons_succ]
        refine wpAnyG_take (i := 28) (v := ?v25) rfl (by kernel_rfl) (by kernel_rfl) (by kernel_rfl) (fun _ _ _ h => h) (by rfl) ?h25 ?r25
        case h25 => (intro wg hSw; go_simp <;> with_reducible rfl)
        simp only [Act.put, List.setIfInBounds_toArray, List.set_cons_zero, List.set_cons_succ]
        refine wpAnyG_take (i := 29) (v := ?v26) rfl (by kernel_rfl) (by kernel_rfl) (by kernel_rfl) (fun _ _ _ h => h) (by rfl) ?h26 ?r26
        case h26 => (intro wg hSw; go_simp <;> with_reducible rfl)
        simp only [Act.put, List.setIfInBounds_toArray, List.set_cons_zero, List.set_cons_succ]
        refine wpAnyG_one (i := 27) rfl (by kernel_rfl) (by rfl) (fun K hK => ?_)
        go_simp
        refine (at_1 _ (ICX.out.grow (((Grow.refl _).drew.trans hb7).trans hb8)) P HSP.out).mono ?_
        rintro e w' ⟨rfl, rfl⟩
        refine hK.out _ _ (Grow.refl _) ?_
        clear hK K
        try simp only [Act.put, List.setIfInBounds_toArray, List.set_cons_zero, List.set_cons_succ]
        refine wpAnyG_take (i := 30) (v := ?v27) rfl (by kernel_rfl) (by kernel_rfl) (by kernel_rfl) (fun _ _ _ h => h) (by rfl) ?h27 ?r27
        case h27 => (intro wg hSw; go_simp <;> with_reducible rfl)
        simp only [Act.put, List.setIfInBounds_toArray, List.set_cons_zero, List.set_cons_succ]
        refine wpAnyG_take (i := 31) (v := ?v28) rfl (by kernel_rfl) (by kernel_rfl) (by kernel_rfl) (fun _ _ _ h => h) (by rfl) ?h28 ?r28
        case h28 => (intro wg hSw; go_simp <;> with_reducible rfl)
        simp only [Act.put, List.setIfInBounds_toArray, List.set_cons_zero, List.set_cons_succ]
        refine wpAnyG_done (by kernel_rfl) ?_
        have hb9 := (Grow.of_drew hb7).trans hb8
        clear hq2
        go_wp2_with fail
        go_roundg (m - (k + 1))
        case measure => omega
        case rel => exact ⟨k + 1, by omega, rfl, by go_num, ICX.out.grow hb9, KPX.out.trans (Kept.of_grow hb9)⟩
    · obtain rfl : k = m := by omega
      have hq : ∀ wg, Grow wr.drew wg → wg.cell? ⟨f, 0, none⟩ = some (.int .i64 x) ∧ wg.cell? ⟨f, 1, none⟩ = some (.int .i64 0) ∧ wg.cell? ⟨f, 2, none⟩ = some (.int .i64 P) := fun wg hg => (HQ.out wg (KP.out.trans (Kept.of_grow (Grow.of_drew hg)))).1
      have hq0 := fun wg hg => (hq wg hg).1
      have hq1 := fun wg hg => (hq wg hg).2.1
      have hq2 := fun wg hg => (hq wg hg).2.2
      clear hq
      go_wp2_with fail
      refine wp_region_grow (n := 10) rfl (by kernel_rfl) ?_
      refine wpAnyG_take (i := 0) (v := ?v29) rfl (by kernel_rfl) (by kernel_rfl) (by kernel_rfl) (fun _ _ _ h => h) (by rfl) ?h29 ?r29
      case h29 => (intro wg hSw; go_simp <;> with_reducible rfl)
      simp only [Act.put, List.setIfInBounds_toArray, List.set_cons_zero, List.set_cons_succ]
      refine wpAnyG_take (i := 1) (v := ?v30) rfl (by kernel_rfl) (by kernel_rfl) (by kernel_rfl) (fun _ _ _ h => h) (by rfl) ?h30 ?r30
      case h30 => (intro wg hSw; go_simp <;> with_reducible rfl)
      simp only [Act.put, List.setIfInBounds_toArray, List.set_cons_zero, List.set_cons_succ]
      refine wpAnyG_take (i := 2) (v := ?v31) rfl (by kernel_rfl) (by kernel_rfl) (by kernel_rfl) (fun _ _ _ h => h) (by rfl) ?h31 ?r31
      case h31 => (intro wg hSw; go_simp <;> with_reducible rfl)
      simp only [Act.put, List.setIfInBounds_toArray, List.set_cons_zero, List.set_cons_succ]
      refine wpAnyG_take (i := 3) (v := ?v32) rfl (by kernel_rfl) (by kernel_rfl) (by kernel_rfl) (fun _ _ _ h => h) (by rfl) ?h32 ?r32
      case h32 => (intro wg hSw; go_simp <;> with_reducible rfl)
      simp only [Act.put, List.setIfInBounds_toArray, List.set_cons_zero, List.set_cons_succ]
      refine wpAnyG_take (i := 4) (v := ?v33) rfl (by kernel_rfl) (by kernel_rfl) (by kernel_rfl) (fun _ _ _ h => h) (by rfl) ?h33 ?r33
      case h33 => (intro wg hSw; go_simp <;> with_reducible rfl)
      simp only [Act.put, List.setIfInBounds_toArray, List.set_cons_zero, List.set_cons_succ]
      refine wpAnyG_take (i := 6) (v := ?v34) rfl (by kernel_rfl) (by kernel_rfl) (by kernel_rfl) (fun _ _ _ h => h) (by rfl) ?h34 ?r34
      case h34 => (intro wg hSw; go_simp <;> with_reducible rfl)
      simp only [Act.put, List.setIfInBounds_toArray, List.set_cons_zero, List.set_cons_succ]
      refine wpAnyG_one (i := 5) rfl (by kernel_rfl) (by rfl) (fun K hK => ?_)
      go_simp
      refine (fault_1 _ (IC.out.grow (Grow.refl _).drew) x P HSE.out HSQ.out).mono ?_
      rintro e w7 ⟨rfl, hb7⟩
      refine hK.out _ _ (hb7) ?_
      clear hK K
      try simp only [Act.put, List.setIfInBounds_toArray, List.set_cons_zero, List.set_cons_succ]
      refine wpAnyG_take (i := 7) (v := ?v35) rfl (by kernel_rfl) (by kernel_rfl) (by kernel_rfl) (fun _ _ _ h => h) (by rfl) ?h35 ?r35
      case h35 => (intro wg hSw; go_simp <;> with_reducible rfl)
      simp only [Act.put, List.setIfInBounds_toArray, List.set_cons_zero, List.set_cons_succ]
      refine wpAnyG_take (i := 8) (v := ?v36) rfl (by kernel_rfl) (by kernel_rfl) (by kernel_rfl) (fun _ _ _ h => h) (by rfl) ?h36 ?r36
      case h36 => (intro wg hSw; go_simp <;> with_reducible rfl)
      simp only [Act.put, List.setIfInBounds_toArray, List.set_cons_zero, List.set_cons_succ]
      refine wpAnyG_take (i := 9) (v := ?v37) rfl (by kernel_rfl) (by kernel_rfl) (by kernel_rfl) (fun _ _ _ h => h) (by rfl) ?h37 ?r37
      case h37 => (intro wg hSw; go_simp <;> with_reducible rfl)
      simp only [Act.put, List.setIfInBounds_toArray, List.set_cons_zero, List.set_cons_succ]
      refine wpAnyG_done (by kernel_rfl) ?_
      clear hq0 hq1 hq2
      go_wp2
      go_ret
      exact ⟨rfl, (Kept.grow HB5.out KP.out HSW.out).trans (Grow.of_drew hb7)⟩

theorem stays_walk (A1 A2 : Option Addr) (n m c1 c2 : Nat) (bs : List Int) (x : Int) (l : List (Int × Int)) (w : World) (h1 : bs.length = n) (h2 : l.length = m) (hn : n ≤ 9223372036854775807) (hm : m ≤ 9223372036854775807) (e1 : A1 = none → c1 = 0)
    (b1 : Byt bs) (i2 : I64 l) (r1 : Nums .u8 w w.heap.size A1 bs) (r2 : Acts w w.heap.size A2 l) : Calls Try.prog 5 #[.slice A1 n c1, .int .i64 x, .slice A2 m c2] w (Fine w) := by
  by_cases h : n ≤ 500 ∧ m ≤ 100 ∧ x ≠ 0
  · exact stays_yes A1 A2 n m c1 c2 bs x l w h1 h2 h.1 h.2.1 h.2.2 e1 b1 i2 r1 r2
  · exact stays_no A1 A2 n m c1 c2 x w hn hm h
end Go.Proofs.Yteijplolmpffmaa
