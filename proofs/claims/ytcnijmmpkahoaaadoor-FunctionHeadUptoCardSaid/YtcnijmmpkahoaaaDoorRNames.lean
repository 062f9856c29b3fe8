/-
  What the document's own begins and goes come to, called with any text.
-/
import Derived.Test.YtcnijmmpkahoaaaDoorBasics
namespace Go.Proofs.YtcnijmmpkahoaaaDoor
open Go.RowKit Go.Lib
set_option linter.unusedVariables false
set_option linter.unusedSimpArgs false

theorem index_str {l : List UInt8} {i : Nat} {x : UInt8} (h : l[i]? = some x) (W : World) : (Instr.index 9 (.string ⟨l.toArray⟩) (.int .i64 (i : Nat))).run Tryd.prog W = .ok (.int .u8 (x.toNat : Nat)) W := by
  have hu : Tryd.prog.underlying 9 = some .string := by kernel_rfl
  have hl := (List.getElem?_eq_some_iff.1 h).1
  have h' : (⟨l.toArray⟩ : ByteArray)[i]? = some x := by
    rw [getElem?_pos _ _ (by rw [str_size]; exact hl)]
    congr 1
    have := (List.getElem?_eq_some_iff.1 h).2
    simpa [ByteArray.getElem_eq_getElem_data] using this
  simp only [Instr.index, asIntOf, Sem.run_bind, Sem.run_pure, Result.andThen_ok, run_underlying hu]
  rw [if_pos (by omega), Int.toNat_natCast, h']
  rfl
theorem index_first {l : List UInt8} {x : UInt8} (h : l[0]? = some x) (W : World) : (Instr.index 9 (.string ⟨l.toArray⟩) (.int .i64 0)).run Tryd.prog W = .ok (.int .u8 (x.toNat : Nat)) W := index_str h W

/-- neither of the two great signs stands first -/
theorem beg_small {l : List UInt8} {b : UInt8} (h0 : l[0]? = some b) (h1 : l.take 3 ≠ [226, 136, 134]) (h2 : l.take 3 ≠ [226, 141, 153]) (v : Nat)
    (hv : v = if (65 ≤ b.toNat ∧ b.toNat ≤ 90) ∨ (97 ≤ b.toNat ∧ b.toNat ≤ 122) ∨ b.toNat = 95 then 1 else 0) : begW l = v := by
  have hd : l.headD 0 = b := by
    rcases l with _ | ⟨x, r⟩
    · simp at h0
    · simpa using h0
  unfold begW
  rw [if_neg (by rintro (h | h) <;> contradiction), hd, hv]
  simp only [begB_iff]
theorem ne_take3 {l : List UInt8} (h : ¬ 3 ≤ l.length) (a b c : UInt8) : l.take 3 ≠ [a, b, c] := fun e => by
  have := congrArg List.length e
  rw [List.length_take] at this
  simp at this
  omega

set_option maxRecDepth 10000 in
set_option maxHeartbeats 800000 in
theorem rbegins_any (l : List UInt8) (w : World) : Calls Tryd.prog 57 #[.string ⟨l.toArray⟩] w fun e w' => e = .returned (.int .i64 (begW l : Nat)) ∧ w = w' := by
  have hsl := str_size l
  by_cases h3 : 3 ≤ l.length
  · have h3i : (3 : Int) ≤ ((l.length : Nat) : Int) := by omega
    have hst : ∀ W, (Instr.slice 9 (.string ⟨l.toArray⟩) none (some (.int .i64 3)) none).run Tryd.prog W = .ok (.string ⟨(l.take 3).toArray⟩) W := slice_to l 3 h3
    by_cases h1 : l.take 3 = [226, 136, 134]
    · have HF := Lib.hid (show begW l = 3 by unfold begW; rw [if_pos (.inl h1)])
      rw [h1] at hst
      clear h1
      go_enter Tryd.func57, Tryd.ntmps57
      go_wp2
      go_ret
      exact ⟨by rw [HF.out]; rfl, rfl⟩
    by_cases h2 : l.take 3 = [226, 141, 153]
    · have HF := Lib.hid (show begW l = 3 by unfold begW; rw [if_pos (.inr h2)])
      rw [h2] at hst
      clear h1 h2
      go_enter Tryd.func57, Tryd.ntmps57
      go_wp2
      go_ret
      exact ⟨by rw [HF.out]; rfl, rfl⟩
    obtain ⟨b, hb⟩ : ∃ b, l[0]? = some b := ⟨l[0]'(by omega), List.getElem?_eq_getElem (by omega)⟩
    have hix := index_first hb
    have HW := Lib.hid (beg_small hb h1 h2)
    have hb8 := u8_lt b
    have hlne : ¬ l = [] := fun e => by subst e; simp at h3
    have hlb : (l == []) = false := beq_eq_false_iff_ne.2 hlne
    generalize b.toNat = n at hix HW hb8
    have k1 : (l.take 3 == [226, 136, 134]) = false := beq_eq_false_iff_ne.2 h1
    have k2 : (l.take 3 == [226, 141, 153]) = false := beq_eq_false_iff_ne.2 h2
    generalize l.take 3 = t at hst k1 k2 h1 h2
    clear hb hlne h1 h2
    by_cases q0 : n ≤ 64
    · have HF := Lib.hid (HW.out 0 (by rw [if_neg (by omega)]))
      have g65 : ¬ (65 : Int) ≤ ((n : Nat) : Int) := by omega
      have l90 : ((n : Nat) : Int) ≤ 90 := by omega
      have g97 : ¬ (97 : Int) ≤ ((n : Nat) : Int) := by omega
      have l122 : ((n : Nat) : Int) ≤ 122 := by omega
      have e95 : (((n : Nat) : Int) == 95) = false := by rw [beq_eq_false_iff_ne]; omega
      go_enter Tryd.func57, Tryd.ntmps57
      go_wp2
      go_ret
      exact ⟨by rw [HF.out]; rfl, rfl⟩
    by_cases q1 : n ≤ 90
    · have HF := Lib.hid (HW.out 1 (by rw [if_pos (by omega)]))
      have g65 : (65 : Int) ≤ ((n : Nat) : Int) := by omega
      have l90 : ((n : Nat) : Int) ≤ 90 := by omega
      have g97 : ¬ (97 : Int) ≤ ((n : Nat) : Int) := by omega
      have l122 : ((n : Nat) : Int) ≤ 122 := by omega
      have e95 : (((n : Nat) : Int) == 95) = false := by rw [beq_eq_false_iff_ne]; omega
      go_enter Tryd.func57, Tryd.ntmps57
      go_wp2
      go_ret
      exact ⟨by rw [HF.out]; rfl, rfl⟩
    by_cases q2 : n ≤ 94
    · have HF := Lib.hid (HW.out 0 (by rw [if_neg (by omega)]))
      have g65 : (65 : Int) ≤ ((n : Nat) : Int) := by omega
      have l90 : ¬ ((n : Nat) : Int) ≤ 90 := by omega
      have g97 : ¬ (97 : Int) ≤ ((n : Nat) : Int) := by omega
      have l122 : ((n : Nat) : Int) ≤ 122 := by omega
      have e95 : (((n : Nat) : Int) == 95) = false := by rw [beq_eq_false_iff_ne]; omega
      go_enter Tryd.func57, Tryd.ntmps57
      go_wp2
      go_ret
      exact ⟨by rw [HF.out]; rfl, rfl⟩
    by_cases q3 : n ≤ 95
    · have HF := Lib.hid (HW.out 1 (by rw [if_pos (by omega)]))
      have g65 : (65 : Int) ≤ ((n : Nat) : Int) := by omega
      have l90 : ¬ ((n : Nat) : Int) ≤ 90 := by omega
      have g97 : ¬ (97 : Int) ≤ ((n : Nat) : Int) := by omega
      have l122 : ((n : Nat) : Int) ≤ 122 := by omega
      have e95 : (((n : Nat) : Int) == 95) = true := by rw [beq_iff_eq]; omega
      go_enter Tryd.func57, Tryd.ntmps57
      go_wp2
      go_ret
      exact ⟨by rw [HF.out]; rfl, rfl⟩
    by_cases q4 : n ≤ 96
    · have HF := Lib.hid (HW.out 0 (by rw [if_neg (by omega)]))
      have g65 : (65 : Int) ≤ ((n : Nat) : Int) := by omega
      have l90 : ¬ ((n : Nat) : Int) ≤ 90 := by omega
      have g97 : ¬ (97 : Int) ≤ ((n : Nat) : Int) := by omega
      have l122 : ((n : Nat) : Int) ≤ 122 := by omega
      have e95 : (((n : Nat) : Int) == 95) = false := by rw [beq_eq_false_iff_ne]; omega
      go_enter Tryd.func57, Tryd.ntmps57
      go_wp2
      go_ret
      exact ⟨by rw [HF.out]; rfl, rfl⟩
    by_cases q5 : n ≤ 122
    · have HF := Lib.hid (HW.out 1 (by rw [if_pos (by omega)]))
      have g65 : (65 : Int) ≤ ((n : Nat) : Int) := by omega
      have l90 : ¬ ((n : Nat) : Int) ≤ 90 := by omega
      have g97 : (97 : Int) ≤ ((n : Nat) : Int) := by omega
      have l122 : ((n : Nat) : Int) ≤ 122 := by omega
      have e95 : (((n : Nat) : Int) == 95) = false := by rw [beq_eq_false_iff_ne]; omega
      go_enter Tryd.func57, Tryd.ntmps57
      go_wp2
      go_ret
      exact ⟨by rw [HF.out]; rfl, rfl⟩
    have HF := Lib.hid (HW.out 0 (by rw [if_neg (by omega)]))
    have g65 : (65 : Int) ≤ ((n : Nat) : Int) := by omega
    have l90 : ¬ ((n : Nat) : Int) ≤ 90 := by omega
    have g97 : (97 : Int) ≤ ((n : Nat) : Int) := by omega
    have l122 : ¬ ((n : Nat) : Int) ≤ 122 := by omega
    have e95 : (((n : Nat) : Int) == 95) = false := by rw [beq_eq_false_iff_ne]; omega
    go_enter Tryd.func57, Tryd.ntmps57
    go_wp2
    go_ret
    exact ⟨by rw [HF.out]; rfl, rfl⟩
  · have h3i : ¬ (3 : Int) ≤ ((l.length : Nat) : Int) := by omega
    by_cases h0 : l = []
    · subst h0
      have HF := Lib.hid beg_nil
      go_enter Tryd.func57, Tryd.ntmps57
      go_wp2
      go_ret
      exact ⟨by rw [HF.out]; rfl, rfl⟩
    have hlb : (l == []) = false := beq_eq_false_iff_ne.2 h0
    have hpos : 0 < l.length := by
      rcases l with _ | ⟨x, r⟩
      · exact absurd rfl h0
      · simp
    obtain ⟨b, hb⟩ : ∃ b, l[0]? = some b := ⟨l[0]'hpos, List.getElem?_eq_getElem hpos⟩
    have hix := index_first hb
    have HW := Lib.hid (beg_small hb (ne_take3 h3 _ _ _) (ne_take3 h3 _ _ _))
    have hb8 := u8_lt b
    generalize b.toNat = n at hix HW hb8
    clear hb h0 hpos
    by_cases q0 : n ≤ 64
    · have HF := Lib.hid (HW.out 0 (by rw [if_neg (by omega)]))
      have g65 : ¬ (65 : Int) ≤ ((n : Nat) : Int) := by omega
      have l90 : ((n : Nat) : Int) ≤ 90 := by omega
      have g97 : ¬ (97 : Int) ≤ ((n : Nat) : Int) := by omega
      have l122 : ((n : Nat) : Int) ≤ 122 := by omega
      have e95 : (((n : Nat) : Int) == 95) = false := by rw [beq_eq_false_iff_ne]; omega
      go_enter Tryd.func57, Tryd.ntmps57
      go_wp2
      go_ret
      exact ⟨by rw [HF.out]; rfl, rfl⟩
    by_cases q1 : n ≤ 90
    · have HF := Lib.hid (HW.out 1 (by rw [if_pos (by omega)]))
      have g65 : (65 : Int) ≤ ((n : Nat) : Int) := by omega
      have l90 : ((n : Nat) : Int) ≤ 90 := by omega
      have g97 : ¬ (97 : Int) ≤ ((n : Nat) : Int) := by omega
      have l122 : ((n : Nat) : Int) ≤ 122 := by omega
      have e95 : (((n : Nat) : Int) == 95) = false := by rw [beq_eq_false_iff_ne]; omega
      go_enter Tryd.func57, Tryd.ntmps57
      go_wp2
      go_ret
      exact ⟨by rw [HF.out]; rfl, rfl⟩
    by_cases q2 : n ≤ 94
    · have HF := Lib.hid (HW.out 0 (by rw [if_neg (by omega)]))
      have g65 : (65 : Int) ≤ ((n : Nat) : Int) := by omega
      have l90 : ¬ ((n : Nat) : Int) ≤ 90 := by omega
      have g97 : ¬ (97 : Int) ≤ ((n : Nat) : Int) := by omega
      have l122 : ((n : Nat) : Int) ≤ 122 := by omega
      have e95 : (((n : Nat) : Int) == 95) = false := by rw [beq_eq_false_iff_ne]; omega
      go_enter Tryd.func57, Tryd.ntmps57
      go_wp2
      go_ret
      exact ⟨by rw [HF.out]; rfl, rfl⟩
    by_cases q3 : n ≤ 95
    · have HF := Lib.hid (HW.out 1 (by rw [if_pos (by omega)]))
      have g65 : (65 : Int) ≤ ((n : Nat) : Int) := by omega
      have l90 : ¬ ((n : Nat) : Int) ≤ 90 := by omega
      have g97 : ¬ (97 : Int) ≤ ((n : Nat) : Int) := by omega
      have l122 : ((n : Nat) : Int) ≤ 122 := by omega
      have e95 : (((n : Nat) : Int) == 95) = true := by rw [beq_iff_eq]; omega
      go_enter Tryd.func57, Tryd.ntmps57
      go_wp2
      go_ret
      exact ⟨by rw [HF.out]; rfl, rfl⟩
    by_cases q4 : n ≤ 96
    · have HF := Lib.hid (HW.out 0 (by rw [if_neg (by omega)]))
      have g65 : (65 : Int) ≤ ((n : Nat) : Int) := by omega
      have l90 : ¬ ((n : Nat) : Int) ≤ 90 := by omega
      have g97 : ¬ (97 : Int) ≤ ((n : Nat) : Int) := by omega
      have l122 : ((n : Nat) : Int) ≤ 122 := by omega
      have e95 : (((n : Nat) : Int) == 95) = false := by rw [beq_eq_false_iff_ne]; omega
      go_enter Tryd.func57, Tryd.ntmps57
      go_wp2
      go_ret
      exact ⟨by rw [HF.out]; rfl, rfl⟩
    by_cases q5 : n ≤ 122
    · have HF := Lib.hid (HW.out 1 (by rw [if_pos (by omega)]))
      have g65 : (65 : Int) ≤ ((n : Nat) : Int) := by omega
      have l90 : ¬ ((n : Nat) : Int) ≤ 90 := by omega
      have g97 : (97 : Int) ≤ ((n : Nat) : Int) := by omega
      have l122 : ((n : Nat) : Int) ≤ 122 := by omega
      have e95 : (((n : Nat) : Int) == 95) = false := by rw [beq_eq_false_iff_ne]; omega
      go_enter Tryd.func57, Tryd.ntmps57
      go_wp2
      go_ret
      exact ⟨by rw [HF.out]; rfl, rfl⟩
    have HF := Lib.hid (HW.out 0 (by rw [if_neg (by omega)]))
    have g65 : (65 : Int) ≤ ((n : Nat) : Int) := by omega
    have l90 : ¬ ((n : Nat) : Int) ≤ 90 := by omega
    have g97 : (97 : Int) ≤ ((n : Nat) : Int) := by omega
    have l122 : ¬ ((n : Nat) : Int) ≤ 122 := by omega
    have e95 : (((n : Nat) : Int) == 95) = false := by rw [beq_eq_false_iff_ne]; omega
    go_enter Tryd.func57, Tryd.ntmps57
    go_wp2
    go_ret
    exact ⟨by rw [HF.out]; rfl, rfl⟩

theorem go_small {l : List UInt8} {b : UInt8} (h0 : l[0]? = some b) (hd : ¬ (48 ≤ b.toNat ∧ b.toNat ≤ 57)) (h2 : l.take 2 ≠ [194, 175]) : goW l = begW l := by
  have he : l.headD 0 = b := by
    rcases l with _ | ⟨x, r⟩
    · simp at h0
    · simpa using h0
  unfold goW
  rw [he, if_neg (by rw [digB_iff]; exact hd), if_neg h2]
theorem go_digit {l : List UInt8} {b : UInt8} (h0 : l[0]? = some b) (hd : 48 ≤ b.toNat ∧ b.toNat ≤ 57) : goW l = 1 := by
  rcases l with _ | ⟨x, r⟩
  · simp at h0
  · have e : x = b := by simpa using h0
    subst e
    exact go_dig (digB_iff.2 hd) r

set_option maxRecDepth 10000 in
set_option maxHeartbeats 800000 in
theorem rgoes_any (l : List UInt8) (w : World) : Calls Tryd.prog 58 #[.string ⟨l.toArray⟩] w fun e w' => e = .returned (.int .i64 (goW l : Nat)) ∧ w = w' := by
  have hsl := str_size l
  have HB := Lib.hid (rbegins_any l w)
  by_cases h0 : l = []
  · subst h0
    have HF := Lib.hid (show goW [] = begW [] by decide)
    go_enter Tryd.func58, Tryd.ntmps58
    go_wp2_with fail
    refine (HB.out).mono ?_
    rintro e w1 ⟨rfl, rfl⟩
    go_wp2
    go_ret
    exact ⟨by rw [HF.out]; rfl, rfl⟩
  have hlb : (l == []) = false := beq_eq_false_iff_ne.2 h0
  have hpos : 0 < l.length := by
    rcases l with _ | ⟨x, r⟩
    · exact absurd rfl h0
    · simp
  obtain ⟨b, hb⟩ : ∃ b, l[0]? = some b := ⟨l[0]'hpos, List.getElem?_eq_getElem hpos⟩
  have hix := index_first hb
  have hb8 := u8_lt b
  by_cases hd : 48 ≤ b.toNat ∧ b.toNat ≤ 57
  · have HF := Lib.hid (go_digit hb hd)
    generalize b.toNat = n at hix hd hb8
    have g48 : (48 : Int) ≤ ((n : Nat) : Int) := by omega
    have l57 : ((n : Nat) : Int) ≤ 57 := by omega
    clear hb
    go_enter Tryd.func58, Tryd.ntmps58
    go_wp2
    go_ret
    exact ⟨by rw [HF.out]; rfl, rfl⟩
  have tail : ∀ (n : Nat), (∀ W, (Instr.index 9 (.string ⟨l.toArray⟩) (.int .i64 0)).run Tryd.prog W = .ok (.int .u8 (n : Nat)) W) → (n < 48 ∨ 57 < n ∧ n < 256) → (l.take 2 ≠ [194, 175] → goW l = begW l) → (l.take 2 = [194, 175] → goW l = 2) →
      Calls Tryd.prog 58 #[.string ⟨l.toArray⟩] w fun e w' => e = .returned (.int .i64 (goW l : Nat)) ∧ w = w' := by
    clear hix
    intro n hix hn hg1 hg2
    have HG1 := Lib.hid hg1
    have HG2 := Lib.hid hg2
    clear hg1 hg2 hb hd hb8
    by_cases h2 : 2 ≤ l.length
    · have h2i : (2 : Int) ≤ ((l.length : Nat) : Int) := by omega
      have hst : ∀ W, (Instr.slice 9 (.string ⟨l.toArray⟩) none (some (.int .i64 2)) none).run Tryd.prog W = .ok (.string ⟨(l.take 2).toArray⟩) W := slice_to l 2 h2
      by_cases ho : l.take 2 = [194, 175]
      · have HF := Lib.hid (HG2.out ho)
        rw [ho] at hst
        clear ho HB
        rcases hn with hn | hn
        · have g48 : ¬ (48 : Int) ≤ ((n : Nat) : Int) := by omega
          go_enter Tryd.func58, Tryd.ntmps58
          go_wp2
          go_ret
          exact ⟨by rw [HF.out]; rfl, rfl⟩
        · have g48 : (48 : Int) ≤ ((n : Nat) : Int) := by omega
          have l57 : ¬ ((n : Nat) : Int) ≤ 57 := by omega
          go_enter Tryd.func58, Tryd.ntmps58
          go_wp2
          go_ret
          exact ⟨by rw [HF.out]; rfl, rfl⟩
      · have HF := Lib.hid (HG1.out ho)
        have k1 : (l.take 2 == [194, 175]) = false := beq_eq_false_iff_ne.2 ho
        clear HG1 HG2
        generalize l.take 2 = t at hst k1 ho
        clear ho
        rcases hn with hn | hn
        · have g48 : ¬ (48 : Int) ≤ ((n : Nat) : Int) := by omega
          go_enter Tryd.func58, Tryd.ntmps58
          go_wp2_with fail
          refine (HB.out).mono ?_
          rintro e w1 ⟨rfl, rfl⟩
          go_wp2
          go_ret
          exact ⟨by rw [HF.out]; rfl, rfl⟩
        · have g48 : (48 : Int) ≤ ((n : Nat) : Int) := by omega
          have l57 : ¬ ((n : Nat) : Int) ≤ 57 := by omega
          go_enter Tryd.func58, Tryd.ntmps58
          go_wp2_with fail
          refine (HB.out).mono ?_
          rintro e w1 ⟨rfl, rfl⟩
          go_wp2
          go_ret
          exact ⟨by rw [HF.out]; rfl, rfl⟩
    · have h2i : ¬ (2 : Int) ≤ ((l.length : Nat) : Int) := by omega
      have HF := Lib.hid (HG1.out (fun e => by
        have := congrArg List.length e
        rw [List.length_take] at this
        simp at this
        omega))
      clear HG1 HG2
      rcases hn with hn | hn
      · have g48 : ¬ (48 : Int) ≤ ((n : Nat) : Int) := by omega
        go_enter Tryd.func58, Tryd.ntmps58
        go_wp2_with fail
        refine (HB.out).mono ?_
        rintro e w1 ⟨rfl, rfl⟩
        go_wp2
        go_ret
        exact ⟨by rw [HF.out]; rfl, rfl⟩
      · have g48 : (48 : Int) ≤ ((n : Nat) : Int) := by omega
        have l57 : ¬ ((n : Nat) : Int) ≤ 57 := by omega
        go_enter Tryd.func58, Tryd.ntmps58
        go_wp2_with fail
        refine (HB.out).mono ?_
        rintro e w1 ⟨rfl, rfl⟩
        go_wp2
        go_ret
        exact ⟨by rw [HF.out]; rfl, rfl⟩
  refine tail b.toNat hix (by omega) (fun h => go_small hb hd h) (fun h => ?_)
  obtain ⟨r, rfl⟩ := take2 h
  exact go_over r
end Go.Proofs.YtcnijmmpkahoaaaDoor
