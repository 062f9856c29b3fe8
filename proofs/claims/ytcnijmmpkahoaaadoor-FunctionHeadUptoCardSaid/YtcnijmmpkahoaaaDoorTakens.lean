/-
  What name.taken, utf8.RuneCountInString and name.Right come to, called with any text.
-/
import Derived.Test.YtcnijmmpkahoaaaDoorTexts
namespace Go.Proofs.YtcnijmmpkahoaaaDoor
open Go.RowKit Go.Lib
set_option linter.unusedSimpArgs false
set_option linter.unusedVariables false

theorem begins_any (c : Nat) (w : World) : Calls Tryd.prog 72 #[.int .i32 c] w fun e w' => e = .returned (.bool (begC c)) ∧ w = w' := by
  by_cases h1 : 65 ≤ c
  · have h1' : (65 : Int) ≤ c := by omega
    by_cases h2 : c ≤ 90
    · have h2' : (c : Int) ≤ 90 := by omega
      have HF := Lib.hid (show begC c = true by rw [begC_iff]; omega)
      go_enter Tryd.func72, Tryd.ntmps72
      go_wp2
      go_ret
      exact ⟨by rw [HF.out]; rfl, rfl⟩
    · have h2' : ¬ (c : Int) ≤ 90 := by omega
      by_cases h3 : 97 ≤ c
      · have h3' : (97 : Int) ≤ c := by omega
        by_cases h4 : c ≤ 122
        · have h4' : (c : Int) ≤ 122 := by omega
          have HF := Lib.hid (show begC c = true by rw [begC_iff]; omega)
          go_enter Tryd.func72, Tryd.ntmps72
          go_wp2
          go_ret
          exact ⟨by rw [HF.out]; rfl, rfl⟩
        · have h4' : ¬ (c : Int) ≤ 122 := by omega
          have h5 : (((c : Nat) : Int) == 95) = false := by rw [beq_eq_false_iff_ne]; omega
          by_cases h6 : c = 8710
          · subst h6
            have HF := Lib.hid (show begC 8710 = true by decide)
            go_enter Tryd.func72, Tryd.ntmps72
            go_wp2
            go_ret
            exact ⟨by rw [HF.out]; rfl, rfl⟩
          · have h6' : (((c : Nat) : Int) == 8710) = false := by rw [beq_eq_false_iff_ne]; omega
            by_cases h7 : c = 9049
            · subst h7
              have HF := Lib.hid (show begC 9049 = true by decide)
              go_enter Tryd.func72, Tryd.ntmps72
              go_wp2
              go_ret
              exact ⟨by rw [HF.out]; rfl, rfl⟩
            · have h7' : (((c : Nat) : Int) == 9049) = false := by rw [beq_eq_false_iff_ne]; omega
              have HF := Lib.hid (show begC c = false by rw [Bool.eq_false_iff, ne_eq, begC_iff]; omega)
              go_enter Tryd.func72, Tryd.ntmps72
              go_wp2
              go_ret
              exact ⟨by rw [HF.out]; rfl, rfl⟩
      · have h3' : ¬ (97 : Int) ≤ c := by omega
        by_cases h5 : c = 95
        · subst h5
          have HF := Lib.hid (show begC 95 = true by decide)
          go_enter Tryd.func72, Tryd.ntmps72
          go_wp2
          go_ret
          exact ⟨by rw [HF.out]; rfl, rfl⟩
        · have h5' : (((c : Nat) : Int) == 95) = false := by rw [beq_eq_false_iff_ne]; omega
          have h6' : (((c : Nat) : Int) == 8710) = false := by rw [beq_eq_false_iff_ne]; omega
          have h7' : (((c : Nat) : Int) == 9049) = false := by rw [beq_eq_false_iff_ne]; omega
          have HF := Lib.hid (show begC c = false by rw [Bool.eq_false_iff, ne_eq, begC_iff]; omega)
          go_enter Tryd.func72, Tryd.ntmps72
          go_wp2
          go_ret
          exact ⟨by rw [HF.out]; rfl, rfl⟩
  · have h1' : ¬ (65 : Int) ≤ c := by omega
    have h3' : ¬ (97 : Int) ≤ c := by omega
    have h5' : (((c : Nat) : Int) == 95) = false := by rw [beq_eq_false_iff_ne]; omega
    have h6' : (((c : Nat) : Int) == 8710) = false := by rw [beq_eq_false_iff_ne]; omega
    have h7' : (((c : Nat) : Int) == 9049) = false := by rw [beq_eq_false_iff_ne]; omega
    have HF := Lib.hid (show begC c = false by rw [Bool.eq_false_iff, ne_eq, begC_iff]; omega)
    go_enter Tryd.func72, Tryd.ntmps72
    go_wp2
    go_ret
    exact ⟨by rw [HF.out]; rfl, rfl⟩

theorem goes_any (c : Nat) (w : World) : Calls Tryd.prog 73 #[.int .i32 c] w fun e w' => e = .returned (.bool (digC c)) ∧ w = w' := by
  by_cases h1 : 48 ≤ c
  · have h1' : (48 : Int) ≤ c := by omega
    by_cases h2 : c ≤ 57
    · have h2' : (c : Int) ≤ 57 := by omega
      have HF := Lib.hid (show digC c = true by rw [digC_iff]; omega)
      go_enter Tryd.func73, Tryd.ntmps73
      go_wp2
      go_ret
      exact ⟨by rw [HF.out]; rfl, rfl⟩
    · have h2' : ¬ (c : Int) ≤ 57 := by omega
      by_cases h3 : c = 175
      · subst h3
        have HF := Lib.hid (show digC 175 = true by decide)
        go_enter Tryd.func73, Tryd.ntmps73
        go_wp2
        go_ret
        exact ⟨by rw [HF.out]; rfl, rfl⟩
      · have h3' : (((c : Nat) : Int) == 175) = false := by rw [beq_eq_false_iff_ne]; omega
        have HF := Lib.hid (show digC c = false by rw [Bool.eq_false_iff, ne_eq, digC_iff]; omega)
        go_enter Tryd.func73, Tryd.ntmps73
        go_wp2
        go_ret
        exact ⟨by rw [HF.out]; rfl, rfl⟩
  · have h1' : ¬ (48 : Int) ≤ c := by omega
    have h3' : (((c : Nat) : Int) == 175) = false := by rw [beq_eq_false_iff_ne]; omega
    have HF := Lib.hid (show digC c = false by rw [Bool.eq_false_iff, ne_eq, digC_iff]; omega)
    go_enter Tryd.func73, Tryd.ntmps73
    go_wp2
    go_ret
    exact ⟨by rw [HF.out]; rfl, rfl⟩

/-- a range that has come so far stands amid a name -/
def Amid (l : List UInt8) (pos : Nat) : Prop := pos = 0 ∨ begW l ≠ 0 ∧ run l = pos + run (l.drop pos)
theorem drop_ne {l : List UInt8} {pos : Nat} (h : pos < l.length) : l.drop pos ≠ [] := fun e => by
  have := congrArg List.length e
  simp at this
  omega
theorem amid_end {l : List UInt8} (h : Amid l l.length) : takenD l = l.length := by
  rcases h with h | ⟨h, e⟩
  · have : l = [] := List.eq_nil_of_length_eq_zero h
    subst this
    decide
  · unfold takenD
    rw [if_neg h, e, List.drop_length]
    rfl
theorem amid_stop {l : List UInt8} {pos : Nat} (h : Amid l pos) (hb : begC (runeD (l.drop pos)).1 = false) (hd : pos = 0 ∨ digC (runeD (l.drop pos)).1 = false) : takenD l = pos := by
  rcases h with h | ⟨h, e⟩
  · subst h
    rw [List.drop_zero, beg_rune] at hb
    unfold takenD
    rw [if_pos (by simpa using hb)]
  · rcases hd with hd | hd
    · subst hd
      rw [List.drop_zero, beg_rune] at hb
      exact absurd (by simpa using hb) h
    · have hg := go_rune (l.drop pos)
      rw [hb, hd] at hg
      have hz : goW (l.drop pos) = 0 := by
        by_cases hz : goW (l.drop pos) = 0
        · exact hz
        · rw [decide_eq_true hz] at hg; cases hg
      unfold takenD
      rw [if_neg h, e, (run_zero hz).1]
      rfl
theorem amid_next {l : List UInt8} {pos : Nat} (h : Amid l pos) (hd : begC (runeD (l.drop pos)).1 = true ∨ pos ≠ 0 ∧ digC (runeD (l.drop pos)).1 = true) :
    Amid l (pos + (runeD (l.drop pos)).2) ∧ pos + (runeD (l.drop pos)).2 ≤ l.length ∨ l.length < pos := by
  by_cases hp : l.length < pos
  · exact .inr hp
  left
  have hg : goW (l.drop pos) ≠ 0 := by
    have := go_rune (l.drop pos)
    have h1 : (begC (runeD (l.drop pos)).1 || digC (runeD (l.drop pos)).1) = true := by
      rcases hd with h1 | h1
      · rw [h1]; rfl
      · rw [h1.2, Bool.or_true]
    rw [h1] at this
    simpa using this.symm
  have hw := go_width hg
  have hle := go_le (l.drop pos)
  rw [List.length_drop] at hle
  refine ⟨.inr ?_, by omega⟩
  rw [hw]
  have hs := run_step (l.drop pos)
  rw [if_neg hg, List.drop_drop] at hs
  rcases h with h | ⟨h, e⟩
  · subst h
    rcases hd with hd | hd
    · rw [List.drop_zero, beg_rune] at hd
      refine ⟨by simpa using hd, ?_⟩
      rw [List.drop_zero] at hs ⊢
      omega
    · exact absurd rfl hd.1
  · exact ⟨h, by omega⟩

set_option maxRecDepth 10000 in
set_option maxHeartbeats 800000 in
theorem taken_any (l : List UInt8) (w : World) : Calls Tryd.prog 45 #[.string ⟨l.toArray⟩] w fun e w' => e = .returned (.int .i64 (takenD l : Nat)) ∧ Grow w w' := by
  go_enter Tryd.func45, Tryd.ntmps45
  go_wp2
  go_loopg [3] l.length (fun g _ wr => ∃ pos : Nat, pos ≤ l.length ∧ g = l.length - pos ∧ Amid l pos ∧ Going w.heap.size l pos wr ∧ Grow w wr)
  case atStart => exact ⟨0, Nat.zero_le _, rfl, .inl rfl, going_new w l, grow_new _ _⟩
  case round =>
    obtain ⟨pos, hle, rfl, hra, hgo, hgr⟩ := hrel
    have HA := Lib.hid hra
    have HG := Lib.hid hgr
    have HO := Lib.hid hgo
    clear hra hgr
    by_cases hp : pos < l.length
    · have hnx := fun ty => hgo.next hp ty
      have hrp := rune_pos (l.drop pos)
      have HST := Lib.hid (amid_stop HA.out)
      have HNX := Lib.hid (amid_next HA.out)
      obtain ⟨c, hc⟩ : ∃ c, (runeD (l.drop pos)).1 = c := ⟨_, rfl⟩
      obtain ⟨n, hnn⟩ : ∃ n, (runeD (l.drop pos)).2 = n := ⟨_, rfl⟩
      rw [hc, hnn] at hnx
      rw [hc] at HST HNX
      rw [hnn] at HNX hrp
      have HG1 := Lib.hid (show Grow w (wr.iterAt w.heap.size ⟨l.toArray⟩ (pos + n)) from below_iterAt HG.out (Nat.le_refl _) _ _)
      have HO1 := Lib.hid (HO.out.step (pos + n))
      generalize wr.iterAt w.heap.size ⟨l.toArray⟩ (pos + n) = w1 at hnx HG1 HO1
      have HB := Lib.hid (begins_any c w1)
      have HD := Lib.hid (goes_any c w1)
      clear hgo hc hnn
      cases hb : begC c with
      | true =>
        have HN := Lib.hid (HNX.out (.inl hb))
        rw [hb] at HB
        clear hb
        go_wp2_with fail
        refine (HB.out).mono ?_
        rintro e w2 ⟨rfl, rfl⟩
        go_wp2
        have hnl : pos + n ≤ l.length := by rcases HN.out with h | h <;> omega
        have hna : Amid l (pos + n) := by
          rcases HN.out with h | h
          · exact h.1
          · omega
        go_roundg (l.length - (pos + n))
        case rel => exact ⟨pos + n, hnl, rfl, hna, HO1.out, HG1.out⟩
        case measure => omega
      | false =>
        rw [hb] at HB
        have HBF := Lib.hid hb
        clear hb
        by_cases h0 : pos = 0
        · subst h0
          have HN := Lib.hid (HST.out HBF.out (.inl rfl))
          go_wp2_with fail
          refine (HB.out).mono ?_
          rintro e w2 ⟨rfl, rfl⟩
          go_wp2
          go_ret
          exact ⟨by rw [HN.out]; rfl, HG1.out⟩
        · have h0b : (((pos : Nat) : Int) == 0) = false := by rw [beq_eq_false_iff_ne]; omega
          cases hd : digC c with
          | true =>
            have HN := Lib.hid (HNX.out (.inr ⟨h0, hd⟩))
            rw [hd] at HD
            clear hd
            go_wp2_with fail
            refine (HB.out).mono ?_
            rintro e w2 ⟨rfl, rfl⟩
            go_wp2_with fail
            refine (HD.out).mono ?_
            rintro e w2 ⟨rfl, rfl⟩
            go_wp2
            have hnl : pos + n ≤ l.length := by rcases HN.out with h | h <;> omega
            have hna : Amid l (pos + n) := by
              rcases HN.out with h | h
              · exact h.1
              · omega
            go_roundg (l.length - (pos + n))
            case rel => exact ⟨pos + n, hnl, rfl, hna, HO1.out, HG1.out⟩
            case measure => omega
          | false =>
            have HN := Lib.hid (HST.out HBF.out (.inr hd))
            rw [hd] at HD
            clear hd
            go_wp2_with fail
            refine (HB.out).mono ?_
            rintro e w2 ⟨rfl, rfl⟩
            go_wp2_with fail
            refine (HD.out).mono ?_
            rintro e w2 ⟨rfl, rfl⟩
            go_wp2
            go_ret
            exact ⟨by rw [HN.out]; rfl, HG1.out⟩
    · obtain rfl : pos = l.length := by omega
      have hnx := fun ty => hgo.stop hp ty
      have HF := Lib.hid (amid_end HA.out)
      clear hgo
      go_wp2
      go_ret
      exact ⟨by rw [HF.out]; simp [ByteArray.size], HG.out⟩

set_option maxRecDepth 10000 in
theorem count_any (l : List UInt8) (w : World) (hl : l.length ≤ 9223372036854775807) : Calls Tryd.prog 30 #[.string ⟨l.toArray⟩] w fun e w' => e = .returned (.int .i64 (rc l : Nat)) ∧ Grow w w' := by
  go_enter Tryd.func30, Tryd.ntmps30
  go_wp2
  go_loopg [2] l.length (fun g s2 wr => ∃ pos k : Nat, pos ≤ l.length + 3 ∧ g = l.length - pos ∧ s2 = .int .i64 k ∧ k ≤ l.length ∧ k ≤ pos ∧ Hid (rc l = k + rc (l.drop pos)) ∧ Going w.heap.size l pos wr ∧ Grow w wr)
  case atStart => exact ⟨0, 0, Nat.zero_le _, rfl, rfl, Nat.zero_le _, Nat.zero_le _, Lib.hid (by simp), going_new w l, grow_new _ _⟩
  case round =>
    obtain ⟨pos, k, hle, rfl, rfl, hk, hkp, HR, hgo, hgr⟩ := hrel
    have HG := Lib.hid hgr
    have HO := Lib.hid hgo
    clear hgr
    by_cases hp : pos < l.length
    · have hnx := fun ty => hgo.next hp ty
      have hrp := rune_pos (l.drop pos)
      have HR1 := Lib.hid (rc_step (drop_ne hp))
      obtain ⟨c, hc⟩ : ∃ c, (runeD (l.drop pos)).1 = c := ⟨_, rfl⟩
      obtain ⟨n, hnn⟩ : ∃ n, (runeD (l.drop pos)).2 = n := ⟨_, rfl⟩
      have hn4 : n ≤ 4 := by
        rw [← hnn]
        unfold runeD
        split
        · omega
        · rename_i h
          rw [(next_inv h).2.2]
          exact bytes_le _
      rw [hc, hnn] at hnx
      rw [hnn] at HR1 hrp
      have HG1 := Lib.hid (show Grow w (wr.iterAt w.heap.size ⟨l.toArray⟩ (pos + n)) from below_iterAt HG.out (Nat.le_refl _) _ _)
      have HO1 := Lib.hid (HO.out.step (pos + n))
      generalize wr.iterAt w.heap.size ⟨l.toArray⟩ (pos + n) = w1 at hnx HG1 HO1
      clear hgo hc hnn
      go_wp2
      go_roundg (l.length - (pos + n))
      case rel => exact ⟨pos + n, k + 1, by omega, rfl, by go_num, by omega, by omega, Lib.hid (by rw [HR.out, HR1.out, List.drop_drop]; omega), HO1.out, HG1.out⟩
      case measure => omega
    · have hnx := fun ty => hgo.stop hp ty
      have HF := Lib.hid (show rc l = k by rw [HR.out, List.drop_of_length_le (by omega), rc_nil]; rfl)
      clear hgo
      go_wp2
      go_ret
      exact ⟨by rw [HF.out]; rfl, HG.out⟩
end Go.Proofs.YtcnijmmpkahoaaaDoor
