/-
  What function.isOff, strings.ContainsFunc with it, and function.Line come to. Nothing is claimed here by itself.
-/
import Derived.Test.YtcnijmmpkahoaaaDoorFnMath
import Derived.Test.YtcnijmmpkahoaaaDoorSgRight
import Derived.Test.YtcnijmmpkahoaaaDoorBasics
namespace Go.Proofs.YtcnijmmpkahoaaaDoor
open Go.RowKit Go.Lib
set_option linter.unusedSimpArgs false
set_option linter.unusedVariables false
set_option maxRecDepth 10000

theorem isoff_any (c : Nat) (w : World) : Calls Tryd.prog 32 #[.int .i32 c] w fun e w' => e = .returned (.bool (offC c)) ∧ w = w' := by
  by_cases h1 : c < 32
  · have h1' : ((c : Nat) : Int) < 32 := by omega
    have HF := Lib.hid (show offC c = true by simp [offC, h1])
    go_enter Tryd.func32, Tryd.ntmps32
    go_wp2
    go_ret
    exact ⟨by rw [HF.out]; rfl, rfl⟩
  · have h1' : ¬ ((c : Nat) : Int) < 32 := by omega
    by_cases h2 : 127 ≤ c
    · have h2' : (127 : Int) ≤ ((c : Nat) : Int) := by omega
      by_cases h3 : c ≤ 159
      · have h3' : ((c : Nat) : Int) ≤ 159 := by omega
        have HF := Lib.hid (show offC c = true by simp [offC, h2, h3])
        go_enter Tryd.func32, Tryd.ntmps32
        go_wp2
        go_ret
        exact ⟨by rw [HF.out]; rfl, rfl⟩
      · have h3' : ¬ ((c : Nat) : Int) ≤ 159 := by omega
        have h3b : decide (((c : Nat) : Int) ≤ 159) = false := decide_eq_false h3'
        have HF := Lib.hid (show offC c = false by simp [offC]; omega)
        go_enter Tryd.func32, Tryd.ntmps32
        go_wp2
        go_ret
        exact ⟨by rw [HF.out]; rfl, rfl⟩
    · have h2' : ¬ (127 : Int) ≤ ((c : Nat) : Int) := by omega
      have HF := Lib.hid (show offC c = false by simp [offC]; omega)
      go_enter Tryd.func32, Tryd.ntmps32
      go_wp2
      go_ret
      exact ⟨by rw [HF.out]; rfl, rfl⟩

/-- a right text's first sign -/
theorem signs_head {l : List UInt8} {ss : List Nat} (h : signsD l = some ss) (hne : l ≠ []) : ∃ c n t, runeD l = (c, n) ∧ 1 ≤ n ∧ n ≤ l.length ∧ ss = c :: t ∧ signsD (l.drop n) = some t := by
  rw [signsD_step hne] at h
  by_cases hn : (nextD l).2 = 0
  · rw [if_pos hn] at h; cases h
  · rw [if_neg hn] at h
    cases ht : signsD (l.drop (nextD l).2) with
    | none => rw [ht] at h; cases h
    | some t =>
      rw [ht] at h
      exact ⟨(nextD l).1, (nextD l).2, t, rune_yes hn, by omega, next_le hn, (Option.some.inj h).symm, ht⟩
theorem rc_signs : ∀ (l : List UInt8) (ss : List Nat), signsD l = some ss → rc l = ss.length
  | l, ss, h => by
    by_cases hne : l = []
    · subst hne
      rw [signsD_nil] at h
      cases h
      rfl
    · obtain ⟨c, n, t, h1, h2, h3, rfl, h5⟩ := signs_head h hne
      have hlt : (l.drop n).length < l.length := by rw [List.length_drop]; omega
      rw [rc_step hne, h1, rc_signs (l.drop n) t h5]
      simp only [List.length_cons]
      omega
  termination_by l => l.length
  decreasing_by exact hlt

/-- an index: not less than 0, where it is there -/
def There (b : Bool) (w : World) (e : Ending) (w' : World) : Prop := ∃ j : Int, e = .returned (.int .i64 j) ∧ decide (0 ≤ j) = b ∧ Grow w w'
set_option maxHeartbeats 1600000 in
theorem offidx_any (l : List UInt8) (ss : List Nat) (w : World) (hs : signsD l = some ss) :
    Calls Tryd.prog 78 #[.string ⟨l.toArray⟩, .func (.func 32) #[] #[], .bool true] w (There (ss.any offC) w) := by
  have HS := Lib.hid hs
  clear hs
  go_enter Tryd.func78, Tryd.ntmps78
  go_wp2
  go_loopg [7] l.length (fun g _ wr => ∃ (pos : Nat) (rest : List Nat), pos ≤ l.length ∧ g = l.length - pos ∧ Hid (signsD (l.drop pos) = some rest) ∧ Hid (rest.any offC = ss.any offC) ∧ Going w.heap.size l pos wr ∧ Grow w wr)
  case atStart => exact ⟨0, ss, Nat.zero_le _, rfl, HS, Lib.hid rfl, going_new w l, grow_new _ _⟩
  case round =>
    obtain ⟨pos, rest, hle, rfl, HR, HA, hgo, hgr⟩ := hrel
    have HG := Lib.hid hgr
    have HO := Lib.hid hgo
    clear hgr
    by_cases hp : pos < l.length
    · have hnx := fun ty => hgo.next hp ty
      obtain ⟨c, n, t, h1, h2, h3, rfl, h5⟩ := signs_head HR.out (drop_ne hp)
      rw [h1] at hnx
      rw [List.drop_drop] at h5
      rw [List.length_drop] at h3
      have HT := Lib.hid h5
      have HG1 := Lib.hid (show Grow w (wr.iterAt w.heap.size ⟨l.toArray⟩ (pos + n)) from below_iterAt HG.out (Nat.le_refl _) _ _)
      have HO1 := Lib.hid (HO.out.step (pos + n))
      simp only at hnx
      generalize wr.iterAt w.heap.size ⟨l.toArray⟩ (pos + n) = w1 at hnx HG1 HO1
      have HC := Lib.hid (isoff_any c w1)
      clear hgo h1 h5
      cases ho : offC c with
      | true =>
        rw [ho] at HC
        have HF : Hid (ss.any offC = true) := Lib.hid (by rw [← HA.out, List.any_cons, ho]; rfl)
        have HJ : Hid (decide ((0 : Int) ≤ ((pos : Nat) : Int)) = true) := Lib.hid (by rw [decide_eq_true_iff]; omega)
        clear ho
        go_wp2_with (go_at_call 32; refine (HC.out).mono ?_; rintro e w2 ⟨rfl, rfl⟩)
        go_ret
        exact ⟨_, rfl, by rw [HF.out]; exact HJ.out, HG1.out⟩
      | false =>
        rw [ho] at HC
        have HN : Hid (t.any offC = ss.any offC) := Lib.hid (by rw [← HA.out, List.any_cons, ho]; rfl)
        clear ho
        go_wp2_with (go_at_call 32; refine (HC.out).mono ?_; rintro e w2 ⟨rfl, rfl⟩)
        go_roundg (l.length - (pos + n))
        case rel => exact ⟨pos + n, t, by omega, rfl, HT, HN, HO1.out, HG1.out⟩
        case measure => omega
    · obtain rfl : pos = l.length := by omega
      have hnx := fun ty => hgo.stop hp ty
      have HF : Hid (ss.any offC = false) := Lib.hid (by
        have h := HR.out
        rw [List.drop_length, signsD_nil] at h
        cases h
        rw [← HA.out]
        rfl)
      clear hgo
      go_wp2
      go_ret
      exact ⟨_, rfl, by rw [HF.out]; rfl, HG.out⟩
theorem offfn_any (l : List UInt8) (ss : List Nat) (w : World) (hs : signsD l = some ss) :
    Calls Tryd.prog 53 #[.string ⟨l.toArray⟩, .func (.func 32) #[] #[]] w (There (ss.any offC) w) := by
  have HC := Lib.hid (offidx_any l ss w hs)
  clear hs
  go_enter Tryd.func53, Tryd.ntmps53
  go_wp2_with fail
  refine (HC.out).mono ?_
  rintro e w1 ⟨j, rfl, hj, hg⟩
  have HG := Lib.hid hg
  have HJ := Lib.hid hj
  clear hg hj
  go_wp2
  go_ret
  exact ⟨j, rfl, HJ.out, HG.out⟩
theorem offs_any (l : List UInt8) (ss : List Nat) (b : Bool) (w : World) (hs : signsD l = some ss) (hb : ss.any offC = b) :
    Calls Tryd.prog 31 #[.string ⟨l.toArray⟩, .func (.func 32) #[] #[]] w (Says b w) := by
  have HC := Lib.hid (offfn_any l ss w hs)
  rw [hb] at HC
  clear hs hb
  go_enter Tryd.func31, Tryd.ntmps31
  go_wp2_with fail
  refine (HC.out).mono ?_
  rintro e w1 ⟨j, rfl, hj, hg⟩
  have HG := Lib.hid hg
  clear hg
  go_wp2
  go_ret
  exact ⟨by rw [← hj]; rfl, HG.out⟩

set_option maxHeartbeats 1600000 in
theorem line_any (l : List UInt8) (w : World) (hl : l.length ≤ 9223372036854775807) : Calls Tryd.prog 10 #[.string ⟨l.toArray⟩] w (Says (lineD l) w) := by
  have HR := Lib.hid (sright_any l w)
  cases hs : signsD l with
  | none =>
    rw [hs] at HR
    have HF : Hid (lineD l = false) := Lib.hid (by unfold lineD; rw [hs])
    clear hs
    go_enter Tryd.func10, Tryd.ntmps10
    go_wp2_with fail
    refine (HR.out).mono ?_
    rintro e w1 ⟨rfl, hg⟩
    have HG := Lib.hid hg
    clear hg
    go_wp2
    go_ret
    exact ⟨by rw [HF.out]; rfl, HG.out⟩
  | some ss =>
    rw [hs] at HR
    have HC := Lib.hid (fun W => count_any l W hl)
    rw [rc_signs l ss hs] at HC
    by_cases hn : ss.length ≤ 1000
    · have hni : ((ss.length : Nat) : Int) ≤ 1000 := by omega
      obtain ⟨b, hb⟩ : ∃ b, ss.any offC = b := ⟨_, rfl⟩
      have HO := Lib.hid (fun W => offs_any l ss b W hs hb)
      have HF : Hid (lineD l = !b) := Lib.hid (by unfold lineD; rw [hs]; simp only; rw [hb, decide_eq_true hn]; rfl)
      clear hs hb hn
      generalize ss.length = m at HC hni
      cases b <;>
      · go_enter Tryd.func10, Tryd.ntmps10
        go_wp2_with fail
        refine (HR.out).mono ?_
        rintro e w1 ⟨rfl, hg⟩
        have HG := Lib.hid hg
        clear hg
        go_wp2_with fail
        refine (HC.out _).mono ?_
        rintro e w2 ⟨rfl, hg⟩
        have HG2 := Lib.hid (HG.out.trans hg)
        clear hg
        go_wp2_with fail
        refine (HO.out _).mono ?_
        rintro e w3 ⟨rfl, hg⟩
        have HG3 := Lib.hid (HG2.out.trans hg)
        clear hg
        go_wp2
        go_ret
        exact ⟨by rw [HF.out]; rfl, HG3.out⟩
    · have hni : ¬ ((ss.length : Nat) : Int) ≤ 1000 := by omega
      have HF : Hid (lineD l = false) := Lib.hid (by unfold lineD; rw [hs]; simp only; rw [decide_eq_false hn]; rfl)
      clear hs hn
      generalize ss.length = m at HC hni
      go_enter Tryd.func10, Tryd.ntmps10
      go_wp2_with fail
      refine (HR.out).mono ?_
      rintro e w1 ⟨rfl, hg⟩
      have HG := Lib.hid hg
      clear hg
      go_wp2_with fail
      refine (HC.out _).mono ?_
      rintro e w2 ⟨rfl, hg⟩
      have HG2 := Lib.hid (HG.out.trans hg)
      clear hg
      go_wp2
      go_ret
      exact ⟨by rw [HF.out]; rfl, HG2.out⟩
end Go.Proofs.YtcnijmmpkahoaaaDoor
