/-
  What the document's own Take, Right and System come to, called with any text.
-/
import Derived.Test.YtcnijmmpkahoaaaDoorRNames
import Derived.Test.YtcnijmmpkahoaaaDoorLMath
namespace Go.Proofs.YtcnijmmpkahoaaaDoor
open Go.RowKit Go.Lib
set_option linter.unusedVariables false
set_option linter.unusedSimpArgs false

set_option maxRecDepth 10000 in
set_option maxHeartbeats 800000 in
theorem rtake_any (l : List UInt8) (w : World) (hl : l.length ≤ 1100000) : Calls Tryd.prog 35 #[.string ⟨l.toArray⟩] w (Took (l.take (takenD l)) (l.drop (takenD l)) w) := by
  have HB := Lib.hid (rbegins_any l w)
  by_cases h0 : begW l = 0
  · have HF := Lib.hid (show l.take (takenD l) = [] ∧ l.drop (takenD l) = l by rw [taken_zero h0]; exact ⟨rfl, rfl⟩)
    rw [h0] at HB
    clear h0
    rw [HF.out.1, HF.out.2]
    go_enter Tryd.func35, Tryd.ntmps35
    go_wp2_with fail
    refine (HB.out).mono ?_
    rintro e w1 ⟨rfl, rfl⟩
    go_wp2
    go_ret2
    exact ⟨rfl, Grow.refl _⟩
  · have HT := Lib.hid (taken_run h0)
    have hle := beg_run h0
    have hrl := (run_le l).1
    have HS := Lib.hid (show run l = begW l + run (l.drop (begW l)) by
      have := run_step l
      rw [(beg_go h0).1, if_neg h0] at this
      exact this)
    rw [HT.out]
    generalize begW l = n0 at HB h0 hle HS
    have h0b : (((n0 : Nat) : Int) == 0) = false := by rw [beq_eq_false_iff_ne]; omega
    obtain ⟨R, hR⟩ : ∃ R, run l = R := ⟨_, rfl⟩
    rw [hR] at hle hrl HS ⊢
    have HRR := Lib.hid hR
    clear hR HT
    go_enter Tryd.func35, Tryd.ntmps35
    go_wp2_with fail
    refine (HB.out).mono ?_
    rintro e w1 ⟨rfl, rfl⟩
    go_wp2
    go_loopg [4] (R - n0) (fun g s4 wr => ∃ pos : Nat, pos ≤ R ∧ g = R - pos ∧ s4 = .int .i64 pos ∧ Hid (R = pos + run (l.drop pos)) ∧ w = wr)
    case atStart => exact ⟨n0, hle, rfl, rfl, HS, rfl⟩
    case round =>
      obtain ⟨pos, hp, rfl, rfl, HP, rfl⟩ := hrel
      have hsf := slice_from l pos (by omega)
      have HGO := Lib.hid (rgoes_any (l.drop pos) w)
      have HST := Lib.hid (run_step (l.drop pos))
      have HDD := Lib.hid (fun k => List.drop_drop (i := k) (j := pos) (l := l))
      by_cases hg : goW (l.drop pos) = 0
      · have hpR : pos = R := by
          have h1 := HP.out
          rw [HST.out, if_pos hg] at h1
          omega
        rw [hg] at HGO
        clear HST HDD hg
        subst hpR
        have hst := slice_to l pos (by omega)
        obtain ⟨d, hd⟩ : ∃ d, l.drop pos = d := ⟨_, rfl⟩
        obtain ⟨a, ha⟩ : ∃ a, l.take pos = a := ⟨_, rfl⟩
        rw [hd] at hsf HGO
        rw [ha] at hst
        have HD := Lib.hid hd
        have HA := Lib.hid ha
        clear hd ha HP
        go_wp2_with fail
        refine (HGO.out).mono ?_
        rintro e w1 ⟨rfl, rfl⟩
        go_wp2_with fail
        refine wp_region_grow (n := 8) rfl (by kernel_rfl) ?_
        refine wpAnyG_take (i := 0) (v := ?v1) rfl (by kernel_rfl) (by kernel_rfl) (by kernel_rfl) (fun _ _ _ h => h) (by rfl) ?h1 ?r1
        case h1 => (intro wg hSw; go_simp <;> with_reducible rfl)
        simp only [Act.put, List.setIfInBounds_toArray, List.set_cons_zero, List.set_cons_succ]
        refine wpAnyG_take (i := 1) (v := ?v2) rfl (by kernel_rfl) (by kernel_rfl) (by kernel_rfl) (fun _ _ _ h => h) (by rfl) ?h2 ?r2
        case h2 => (intro wg hSw; go_simp <;> with_reducible rfl)
        simp only [Act.put, List.setIfInBounds_toArray, List.set_cons_zero, List.set_cons_succ]
        refine wpAnyG_take (i := 2) (v := ?v3) rfl (by kernel_rfl) (by kernel_rfl) (by kernel_rfl) (fun _ _ _ h => h) (by rfl) ?h3 ?r3
        case h3 => (intro wg hSw; go_simp <;> with_reducible rfl)
        simp only [Act.put, List.setIfInBounds_toArray, List.set_cons_zero, List.set_cons_succ]
        refine wpAnyG_take (i := 3) (v := ?v4) rfl (by kernel_rfl) (by kernel_rfl) (by kernel_rfl) (fun _ _ _ h => h) (by rfl) ?h4 ?r4
        case h4 => (intro wg hSw; go_simp <;> with_reducible rfl)
        simp only [Act.put, List.setIfInBounds_toArray, List.set_cons_zero, List.set_cons_succ]
        refine wpAnyG_take (i := 4) (v := ?v5) rfl (by kernel_rfl) (by kernel_rfl) (by kernel_rfl) (fun _ _ _ h => h) (by rfl) ?h5 ?r5
        case h5 => (intro wg hSw; go_simp <;> with_reducible rfl)
        simp only [Act.put, List.setIfInBounds_toArray, List.set_cons_zero, List.set_cons_succ]
        refine wpAnyG_take (i := 5) (v := ?v6) rfl (by kernel_rfl) (by kernel_rfl) (by kernel_rfl) (fun _ _ _ h => h) (by rfl) ?h6 ?r6
        case h6 => (intro wg hSw; go_simp <;> with_reducible rfl)
        simp only [Act.put, List.setIfInBounds_toArray, List.set_cons_zero, List.set_cons_succ]
        refine wpAnyG_take (i := 6) (v := ?v7) rfl (by kernel_rfl) (by kernel_rfl) (by kernel_rfl) (fun _ _ _ h => h) (by rfl) ?h7 ?r7
        case h7 => (intro wg hSw; go_simp <;> with_reducible rfl)
        simp only [Act.put, List.setIfInBounds_toArray, List.set_cons_zero, List.set_cons_succ]
        refine wpAnyG_take (i := 7) (v := ?v8) rfl (by kernel_rfl) (by kernel_rfl) (by kernel_rfl) (fun _ _ _ h => h) (by rfl) ?h8 ?r8
        case h8 => (intro wg hSw; go_simp <;> with_reducible rfl)
        simp only [Act.put, List.setIfInBounds_toArray, List.set_cons_zero, List.set_cons_succ]
        refine wpAnyG_done (by kernel_rfl) ?_
        go_wp2
        go_ret2
        exact ⟨by rw [HD.out, HA.out]; rfl, (Grow.refl _).drew⟩
      · have HN : Hid (R = pos + goW (l.drop pos) + run (l.drop (pos + goW (l.drop pos)))) := Lib.hid (by
          have h1 := HP.out
          rw [HST.out, if_neg hg, HDD.out] at h1
          omega)
        clear HST HDD
        generalize hk : goW (l.drop pos) = k at HGO HN hg
        clear hk
        generalize l.drop pos = d at hsf HGO HP
        have hki : (0 : Int) < ((k : Nat) : Int) := by omega
        have hkR : pos + k ≤ R := by have := HN.out; omega
        go_wp2_with fail
        refine (HGO.out).mono ?_
        rintro e w1 ⟨rfl, rfl⟩
        go_wp2_with fail
        refine (HGO.out).mono ?_
        rintro e w1 ⟨rfl, rfl⟩
        go_wp2
        go_roundg (R - (pos + k))
        case rel => exact ⟨pos + k, hkR, rfl, by go_num, HN, rfl⟩
        case measure => omega

/-- a text that goes on whole -/
theorem whole_step {r : List UInt8} (h : run r = r.length) (hr : r ≠ []) : goW r ≠ 0 ∧ run (r.drop (goW r)) = (r.drop (goW r)).length ∧ cnt r = 1 + cnt (r.drop (goW r)) ∧ goW r ≤ r.length := by
  have hg : goW r ≠ 0 := fun e => by
    rw [run_step, if_pos e] at h
    exact hr (List.eq_nil_of_length_eq_zero h.symm)
  have h1 := run_step r
  have h2 := cnt_step r
  rw [if_neg hg] at h1 h2
  have hle := go_le r
  refine ⟨hg, ?_, h2, hle⟩
  rw [List.length_drop]
  omega
theorem whole_taken (l : List UInt8) : run (l.take (takenD l)) = (l.take (takenD l)).length := by
  have hle := taken_le l
  rw [List.length_take, Nat.min_eq_left hle]
  by_cases h : begW l = 0
  · rw [taken_zero h, List.take_zero]; rfl
  · rw [taken_run h]
    exact (run_take l).1
theorem right_cnt (l : List UInt8) : rightD l = (decide (1 ≤ cnt (l.take (takenD l))) && decide (cnt (l.take (takenD l)) ≤ 32) && decide (l.drop (takenD l) = [])) := by
  rw [Bool.eq_iff_iff, right_iff, Bool.and_eq_true, Bool.and_eq_true, decide_eq_true_eq, decide_eq_true_eq, decide_eq_true_eq]
  by_cases h : begW l = 0
  · rw [taken_zero h, List.take_zero]
    constructor
    · exact fun ⟨h1, _⟩ => absurd h h1
    · rintro ⟨⟨h1, _⟩, _⟩
      exact absurd h1 (by decide)
  · rw [taken_run h, (run_take l).2.1]
    have h1 : 1 ≤ cnt l := by rw [cnt_step, if_neg (by rw [(beg_go h).1]; exact h)]; omega
    have hle := (run_le l).1
    constructor
    · rintro ⟨_, h2, h3⟩
      exact ⟨⟨h1, h3⟩, List.drop_of_length_le (by omega)⟩
    · rintro ⟨⟨_, h3⟩, h2⟩
      refine ⟨h, ?_, h3⟩
      have := congrArg List.length h2
      rw [List.length_drop] at this
      simp at this
      omega

set_option maxRecDepth 10000 in
set_option maxHeartbeats 800000 in
theorem rright_any (l : List UInt8) (w : World) (hl : l.length ≤ 1100000) : Calls Tryd.prog 38 #[.string ⟨l.toArray⟩] w (Says (rightD l) w) := by
  have HT := Lib.hid (rtake_any l w hl)
  have HW := Lib.hid (whole_taken l)
  have HC := Lib.hid (right_cnt l)
  have hal : (l.take (takenD l)).length ≤ 1100000 := by rw [List.length_take]; omega
  generalize l.take (takenD l) = a at HT HW HC hal
  generalize l.drop (takenD l) = b at HT HC
  have hca : cnt a ≤ a.length := by have := run_le a; omega
  go_enter Tryd.func38, Tryd.ntmps38
  go_wp2_with fail
  refine (HT.out).mono ?_
  rintro e w1 ⟨rfl, hg⟩
  have HG := Lib.hid hg
  clear hg HT
  go_wp2
  go_loopg [3, 5] a.length (fun g s3 s5 wr => ∃ (r : List UInt8) (k : Nat), r.length = g ∧ s3 = .string ⟨r.toArray⟩ ∧ s5 = .int .i64 k ∧ k ≤ 1100000 ∧ Hid (run r = r.length) ∧ Hid (cnt a = k + cnt r) ∧ w1 = wr)
  case atStart => exact ⟨a, 0, rfl, rfl, rfl, Nat.zero_le _, HW, Lib.hid (by omega), rfl⟩
  case round =>
    obtain ⟨r, k, rfl, rfl, rfl, hk, HR, HK, rfl⟩ := hrel
    by_cases hr : r = []
    · subst hr
      have hcz : cnt a = k := HK.out
      rw [hcz] at HC
      clear hcz HK HW HR hca
      by_cases h1 : 1 ≤ k
      · have h1i : (1 : Int) ≤ ((k : Nat) : Int) := by omega
        by_cases h2 : k ≤ 32
        · have h2i : ((k : Nat) : Int) ≤ 32 := by omega
          by_cases hb : b = []
          · subst hb
            have HF := Lib.hid (show rightD l = true by rw [HC.out]; simp [h1, h2])
            go_wp2
            go_ret
            exact ⟨by rw [HF.out]; rfl, HG.out⟩
          · have hbb : (b == []) = false := beq_eq_false_iff_ne.2 hb
            have HF := Lib.hid (show rightD l = false by rw [HC.out]; simp [hb])
            go_wp2
            go_ret
            exact ⟨by rw [HF.out]; rfl, HG.out⟩
        · have h2i : ¬ ((k : Nat) : Int) ≤ 32 := by omega
          have HF := Lib.hid (show rightD l = false by rw [HC.out]; simp [h2])
          go_wp2
          go_ret
          exact ⟨by rw [HF.out]; rfl, HG.out⟩
      · have h1i : ¬ (1 : Int) ≤ ((k : Nat) : Int) := by omega
        have HF := Lib.hid (show rightD l = false by rw [HC.out]; simp [h1])
        go_wp2
        go_ret
        exact ⟨by rw [HF.out]; rfl, HG.out⟩
    · have hrb : (r == []) = false := beq_eq_false_iff_ne.2 hr
      obtain ⟨h1, h2, h3, h4⟩ := whole_step HR.out hr
      have HGO := Lib.hid (rgoes_any r w1)
      have hsf := slice_from r (goW r) h4
      have hkk : k + 1 ≤ 1100000 := by have := HK.out; omega
      have HK2 : Hid (cnt a = (k + 1) + cnt (r.drop (goW r))) := Lib.hid (by rw [HK.out, h3]; omega)
      have HR2 := Lib.hid h2
      have hlt : (r.drop (goW r)).length < r.length := by rw [List.length_drop]; omega
      clear h2 h3 HR HK
      generalize r.drop (goW r) = d at hsf HK2 HR2 hlt
      generalize goW r = m at HGO hsf h1 h4
      go_wp2_with fail
      refine (HGO.out).mono ?_
      rintro e w2 ⟨rfl, rfl⟩
      go_wp2
      go_roundg d.length
      case rel => exact ⟨d, k + 1, rfl, rfl, by go_num, hkk, HR2, HK2, rfl⟩
      case measure => exact hlt

theorem sysL_len : sysL.length = 6 := by decide
end Go.Proofs.YtcnijmmpkahoaaaDoor
