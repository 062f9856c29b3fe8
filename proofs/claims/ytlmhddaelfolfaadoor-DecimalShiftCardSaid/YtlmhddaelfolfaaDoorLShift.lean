/-
  DecimalShift comes to true, whatever it is called with.
-/
import Derived.Test.YtlmhddaelfolfaaDoorSmall
namespace Go.Proofs.YtlmhddaelfolfaaDoor
open Go.RowKit Go.Lib

theorem worth_up {m e : Int} (hm : In m) (k : Nat) (h : rightB m e = true) (h' : rightB m (e + k) = true) : worth m (e + k) = worth m e * 10 ^ k := by
  have h1 := right_exp hm h
  have h2 := right_exp hm h'
  rw [worth_right h, worth_right h', Int.mul_assoc, ← Int.pow_add]
  congr 2
  omega

theorem shift_cmp {m e n f k : Int} (hm : In m) (hn : In n) (h1 : rightB m e = true) (h2 : rightB n f = true) (h3 : rightB m (e + k) = true) (h4 : rightB n (f + k) = true) :
    compareInt (worth m (e + k)) (worth n (f + k)) = compareInt (worth m e) (worth n f) := by
  by_cases hk : 0 ≤ k
  · obtain ⟨j, rfl⟩ := Int.eq_ofNat_of_zero_le hk
    rw [worth_up hm j h1 h3, worth_up hn j h2 h4, cmp_mul _ _ (pow_pos10 j)]
  · obtain ⟨j, hj⟩ := Int.eq_ofNat_of_zero_le (show 0 ≤ -k by omega)
    have e1 : e = (e + k) + (j : Nat) := by omega
    have e2 : f = (f + k) + (j : Nat) := by omega
    have a1 := worth_up hm j h3 (by rw [← e1]; exact h1)
    have a2 := worth_up hn j h4 (by rw [← e2]; exact h2)
    rw [← e1] at a1
    rw [← e2] at a2
    rw [a1, a2, cmp_mul _ _ (pow_pos10 j)]

set_option maxRecDepth 10000 in
set_option maxHeartbeats 1600000 in
theorem lshift_walk (m e n f k : Int) (w : World) (hm : In m) (he : In e) (hn : In n) (hf : In f) (hk : In k) (hL : Laid w) :
    Calls Tryd.prog 7 #[.agg #[.int .i64 m, .int .i64 e], .agg #[.int .i64 n, .int .i64 f], .int .i64 k] w fun x w' => x = .returned (.bool true) ∧ Grow w w' := by
  have HS := Lib.hid (fun W (h : Laid W) => small_walk W h)
  have HL := Lib.hid hL
  have HRA := Lib.hid (fun W => right_any m e W hm he)
  have HRB := Lib.hid (fun W => right_any n f W hn hf)
  have HCB := Lib.hid (fun W (h : Laid W) => compare_any m e n f W hm he hn hf h.pows)
  have HX1 := Lib.hid (fun h => right_exp (e := e) hm h)
  have HX2 := Lib.hid (fun h => right_exp (e := f) hn h)
  have HQ := Lib.hid (fun h1 h2 h3 h4 => shift_cmp (m := m) (e := e) (n := n) (f := f) (k := k) hm hn h1 h2 h3 h4)
  have HM := Lib.hid hm
  have HN := Lib.hid hn
  have hk1 := hk.1; have hk2 := hk.2
  clear hL hm he hn hf hk
  go_enter Tryd.func7, Tryd.ntmps7
  go_wp2_with fail
  refine (HS.out _ (HL.out.grow (grow_new2 _ _ _))).mono ?_
  rintro x w1 ⟨rfl, hg⟩
  have ha := ((boxed_new w (.int .i64 m) (.int .i64 e) 23).grow (grow_new _ _)).grow hg
  have hb := (boxed_new (w.alloc (.cells #[.int .i64 m, .int .i64 e] 23)) (.int .i64 n) (.int .i64 f) 23).grow hg
  have hsz : (w.alloc (.cells #[.int .i64 m, .int .i64 e] 23)).heap.size = w.heap.size + 1 := by simp
  rw [hsz] at hb
  have a10 := ha.fst; have a11 := ha.snd
  have HA1 := Lib.hid ha
  have HB1 := Lib.hid hb
  have HG1 := Lib.hid ((grow_new2 w _ _).trans hg)
  clear hg ha hb HS hsz
  by_cases q1 : k < -20000
  · go_wp2
    go_ret
    exact ⟨rfl, HG1.out⟩
  by_cases q2 : 20000 < k
  · go_wp2
    go_ret
    exact ⟨rfl, HG1.out⟩
  go_wp2_with fail
  refine (HRA.out _).mono ?_
  rintro x w2 ⟨rfl, hg⟩
  have ha := HA1.out.grow hg
  have hb := HB1.out.grow hg
  have b20 := hb.fst; have b21 := hb.snd
  have HA2 := Lib.hid ha
  have HB2 := Lib.hid hb
  have HG2 := Lib.hid (HG1.out.trans hg)
  clear hg ha hb HRA HA1 HB1 HG1 a10 a11
  obtain ⟨r1, hr1⟩ : ∃ r, rightB m e = r := ⟨_, rfl⟩
  rw [hr1]
  have HR1 := Lib.hid hr1
  clear hr1
  cases r1
  · go_wp2
    go_ret
    exact ⟨rfl, HG2.out⟩
  go_wp2_with fail
  refine (HRB.out _).mono ?_
  rintro x w3 ⟨rfl, hg⟩
  have ha := HA2.out.grow hg
  have hb := HB2.out.grow hg
  have a30 := ha.fst; have a31 := ha.snd; have b30 := hb.fst; have b31 := hb.snd
  have b3g0 : ∀ o, (w3.alloc o).cell? ⟨w.heap.size + 1, 0, none⟩ = some (.int .i64 n) := fun o => (hb.grow (grow_new _ o)).fst
  have b3g1 : ∀ o, (w3.alloc o).cell? ⟨w.heap.size + 1, 1, none⟩ = some (.int .i64 f) := fun o => (hb.grow (grow_new _ o)).snd
  have HA3 := Lib.hid ha
  have HB3 := Lib.hid hb
  have HG3 := Lib.hid (HG2.out.trans hg)
  clear hg ha hb HRB HA2 HB2 HG2 b20 b21
  obtain ⟨r2, hr2⟩ : ∃ r, rightB n f = r := ⟨_, rfl⟩
  rw [hr2]
  have HR2 := Lib.hid hr2
  clear hr2
  cases r2
  · go_wp2
    go_ret
    exact ⟨rfl, HG3.out⟩
  by_cases q3 : m = 0
  · subst q3
    go_wp2
    go_ret
    exact ⟨rfl, HG3.out⟩
  by_cases q4 : n = 0
  · subst q4
    have q3b : (m == 0) = false := by simpa using q3
    go_wp2
    go_ret
    exact ⟨rfl, HG3.out⟩
  have q3b : (m == 0) = false := by simpa using q3
  have q4b : (n == 0) = false := by simpa using q4
  obtain ⟨x1, x2⟩ := HX1.out HR1.out
  obtain ⟨y1, y2⟩ := HX2.out HR2.out
  have HRC := Lib.hid (fun W => right_any m (e + k) W HM.out ⟨by omega, by omega⟩)
  have HRD := Lib.hid (fun W => right_any n (f + k) W HN.out ⟨by omega, by omega⟩)
  have HCD := Lib.hid (fun W (h : Laid W) => compare_any m (e + k) n (f + k) W HM.out ⟨by omega, by omega⟩ HN.out ⟨by omega, by omega⟩ h.pows)
  clear q3 q4
  go_wp2_with fail
  clear x1 x2 y1 y2
  refine (HRC.out _).mono ?_
  rintro x w4 ⟨rfl, hg⟩
  have hc := ((boxed_new w3 (.int .i64 m) (.int .i64 (e + k)) 23).grow (grow_new _ _)).grow hg
  have hd := (boxed_new (w3.alloc (.cells #[.int .i64 m, .int .i64 (e + k)] 23)) (.int .i64 n) (.int .i64 (f + k)) 23).grow hg
  have hsz : (w3.alloc (.cells #[.int .i64 m, .int .i64 (e + k)] 23)).heap.size = w3.heap.size + 1 := by simp
  rw [hsz] at hd
  have d40 := hd.fst; have d41 := hd.snd
  have HC4 := Lib.hid hc
  have HD4 := Lib.hid hd
  have HA4 := Lib.hid (HA3.out.grow ((grow_new2 _ _ _).trans hg))
  have HB4 := Lib.hid (HB3.out.grow ((grow_new2 _ _ _).trans hg))
  have HG4 := Lib.hid (HG3.out.trans ((grow_new2 _ _ _).trans hg))
  clear hg hc hd hsz HRC HA3 HB3 HG3 a30 a31 b30 b31 b3g0 b3g1
  obtain ⟨r3, hr3⟩ : ∃ r, rightB m (e + k) = r := ⟨_, rfl⟩
  rw [hr3]
  have HR3 := Lib.hid hr3
  clear hr3
  cases r3
  · go_wp2
    go_ret
    exact ⟨rfl, HG4.out⟩
  go_wp2_with fail
  refine (HRD.out _).mono ?_
  rintro x w5 ⟨rfl, hg⟩
  have hc := HC4.out.grow hg
  have hd := HD4.out.grow hg
  have ha := HA4.out.grow hg
  have hb := HB4.out.grow hg
  have g1 : ∀ wg, Grow w5.drew wg → wg.cell? ⟨w3.heap.size, 0, none⟩ = some (.int .i64 m) := fun wg h => (hc.grow (Grow.of_drew h)).fst
  have g2 : ∀ wg, Grow w5.drew wg → wg.cell? ⟨w3.heap.size, 1, none⟩ = some (.int .i64 (e + k)) := fun wg h => (hc.grow (Grow.of_drew h)).snd
  have g3 : ∀ wg, Grow w5.drew wg → wg.cell? ⟨w3.heap.size + 1, 0, none⟩ = some (.int .i64 n) := fun wg h => (hd.grow (Grow.of_drew h)).fst
  have g4 : ∀ wg, Grow w5.drew wg → wg.cell? ⟨w3.heap.size + 1, 1, none⟩ = some (.int .i64 (f + k)) := fun wg h => (hd.grow (Grow.of_drew h)).snd
  have g5 : ∀ wg, Grow w5.drew wg → wg.cell? ⟨w.heap.size, 0, none⟩ = some (.int .i64 m) := fun wg h => (ha.grow (Grow.of_drew h)).fst
  have g6 : ∀ wg, Grow w5.drew wg → wg.cell? ⟨w.heap.size, 1, none⟩ = some (.int .i64 e) := fun wg h => (ha.grow (Grow.of_drew h)).snd
  have g7 : ∀ wg, Grow w5.drew wg → wg.cell? ⟨w.heap.size + 1, 0, none⟩ = some (.int .i64 n) := fun wg h => (hb.grow (Grow.of_drew h)).fst
  have g8 : ∀ wg, Grow w5.drew wg → wg.cell? ⟨w.heap.size + 1, 1, none⟩ = some (.int .i64 f) := fun wg h => (hb.grow (Grow.of_drew h)).snd
  have HG5 := Lib.hid (HG4.out.trans hg)
  clear hg hc hd ha hb HRD HC4 HD4 HA4 HB4 HG4 d40 d41
  obtain ⟨r4, hr4⟩ : ∃ r, rightB n (f + k) = r := ⟨_, rfl⟩
  rw [hr4]
  have HR4 := Lib.hid hr4
  clear hr4
  cases r4
  · go_wp2
    go_ret
    exact ⟨rfl, HG5.out⟩
  rw [HQ.out HR1.out HR2.out HR3.out HR4.out] at HCD
  generalize compareInt (worth m e) (worth n f) = C at *
  clear HQ HR1 HR2 HR3 HR4 HX1 HX2
  go_wp2
  refine wp_region_grow (n := 11) rfl (by kernel_rfl) ?_
  refine wpAnyG_take (i := 0) (v := ?v1) rfl (by kernel_rfl) (by kernel_rfl) (by kernel_rfl) (fun _ _ _ h => h) (by rfl) ?h1 ?r1
  case h1 => (intro wg hSw; go_simp <;> with_reducible rfl)
  simp only [Act.put, List.setIfInBounds_toArray, List.set_cons_zero, List.set_cons_succ]
  refine wpAnyG_take (i := 1) (v := ?v2) rfl (by kernel_rfl) (by kernel_rfl) (by kernel_rfl) (fun _ _ _ h => h) (by rfl) ?h2 ?r2
  case h2 => (intro wg hSw; go_simp <;> with_reducible rfl)
  simp only [Act.put, List.setIfInBounds_toArray, List.set_cons_zero, List.set_cons_succ]
  refine wpAnyG_take (i := 2) (v := ?v3) rfl (by kernel_rfl) (by kernel_rfl) (by kernel_rfl) (fun _ _ _ h => h) (by rfl) ?h3 ?r3
  case h3 => (intro wg hSw; go_simp <;> with_reducible rfl)
  simp only [Act.put, List.setIfInBounds_toArray, List.set_cons_zero, List.set_cons_succ]
  refine wpAnyG_take (i := 3) (v := ?v4) rfl (by kernel_rfl) (by kernel_rfl) (by kernel_rfl) (fun _ _ _ h => h) (by rfl) ?h4 ?r4
  case h4 => (intro wg hSw; go_simp <;> with_reducible rfl)
  simp only [Act.put, List.setIfInBounds_toArray, List.set_cons_zero, List.set_cons_succ]
  refine wpAnyG_take (i := 5) (v := ?v5) rfl (by kernel_rfl) (by kernel_rfl) (by kernel_rfl) (fun _ _ _ h => h) (by rfl) ?h5 ?r5
  case h5 => (intro wg hSw; go_simp <;> with_reducible rfl)
  simp only [Act.put, List.setIfInBounds_toArray, List.set_cons_zero, List.set_cons_succ]
  refine wpAnyG_take (i := 6) (v := ?v6) rfl (by kernel_rfl) (by kernel_rfl) (by kernel_rfl) (fun _ _ _ h => h) (by rfl) ?h6 ?r6
  case h6 => (intro wg hSw; go_simp <;> with_reducible rfl)
  simp only [Act.put, List.setIfInBounds_toArray, List.set_cons_zero, List.set_cons_succ]
  refine wpAnyG_one (i := 4) rfl (by kernel_rfl) (by rfl) (fun K hK => ?_)
  go_simp
  refine (HCD.out _ (HL.out.grow HG5.out.drew)).mono ?_
  rintro x w6 ⟨rfl, hg6⟩
  refine hK.out _ _ (hg6) ?_
  clear hK K
  try simp only [Act.put, List.setIfInBounds_toArray, List.set_cons_zero, List.set_cons_succ]
  refine wpAnyG_one (i := 7) rfl (by kernel_rfl) (by rfl) (fun K hK => ?_)
  go_simp
  refine (HCB.out _ (HL.out.grow (HG5.out.trans (Grow.of_drew hg6)))).mono ?_
  rintro x w7 ⟨rfl, hg7⟩
  refine hK.out _ _ (hg7) ?_
  clear hK K
  try simp only [Act.put, List.setIfInBounds_toArray, List.set_cons_zero, List.set_cons_succ]
  refine wpAnyG_take (i := 8) (v := ?v7) rfl (by kernel_rfl) (by kernel_rfl) (by kernel_rfl) (fun _ _ _ h => h) (by rfl) ?h7 ?r7
  case h7 => (intro wg hSw; go_simp <;> with_reducible rfl)
  simp only [Act.put, List.setIfInBounds_toArray, List.set_cons_zero, List.set_cons_succ]
  refine wpAnyG_take (i := 9) (v := ?v8) rfl (by kernel_rfl) (by kernel_rfl) (by kernel_rfl) (fun _ _ _ h => h) (by rfl) ?h8 ?r8
  case h8 => (intro wg hSw; go_simp <;> with_reducible rfl)
  simp only [Act.put, List.setIfInBounds_toArray, List.set_cons_zero, List.set_cons_succ]
  refine wpAnyG_take (i := 10) (v := ?v9) rfl (by kernel_rfl) (by kernel_rfl) (by kernel_rfl) (fun _ _ _ h => h) (by rfl) ?h9 ?r9
  case h9 => (intro wg hSw; go_simp <;> with_reducible rfl)
  simp only [Act.put, List.setIfInBounds_toArray, List.set_cons_zero, List.set_cons_succ]
  refine wpAnyG_done (by kernel_rfl) ?_
  go_wp2
  go_ret
  exact ⟨rfl, HG5.out.trans ((Grow.of_drew hg6).trans hg7)⟩
end Go.Proofs.YtlmhddaelfolfaaDoor
