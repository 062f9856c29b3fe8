/-
  QuoteOnce comes to true, whatever it is called with.
-/
import Derived.Test.YthmhpjjpjgmdaaaDoorLBack
namespace Go.Proofs.YthmhpjjpjgmdaaaDoor
open Go.RowKit Go.Lib
set_option linter.unusedSimpArgs false
set_option linter.unusedVariables false

theorem qT_ge {cs : List Nat} (h : ∀ c ∈ cs, isSign c = true) : cs.length ≤ (qT cs).length := by
  induction cs with
  | nil => simp
  | cons c t ih =>
    have h1 := qC_pos (h c (by simp))
    have h2 := ih (fun d hd => h d (by simp [hd]))
    show _ ≤ (qC c ++ qT t).length
    rw [List.length_append, List.length_cons]
    omega
/-- what is read, written again -/
theorem once_some {l r : List UInt8} {cs : List Nat} (h : readQ l = some (cs, r)) : (intsZ cs).all signZ = true ∧ textQ (intsZ cs) ++ r = l ∧ r.head? ≠ some 39 ∧ (intsZ cs).length ≤ l.length := by
  obtain ⟨h1, h2, h3⟩ := read_inv h
  have ha := all_ints h1
  refine ⟨ha, by rw [textQ_inQ ha, nats_ints]; exact h2, h3, ?_⟩
  have h4 := qT_ge h1
  have h5 := congrArg List.length h2
  rw [List.length_append, inQ_len] at h5
  rw [ints_len]
  omega

set_option maxRecDepth 100000 in
set_option maxHeartbeats 3200000 in
theorem lonce_walk (l : List UInt8) (w : World) (hL : Laid w) (hl : l.length ≤ 9223372036854775807) :
    Calls Tryd.prog 5 #[.string ⟨l.toArray⟩] w (Fine w) := by
  have HS := Lib.hid (fun W h => small_any W h)
  have HL := Lib.hid hL
  clear hL
  by_cases k2 : 500 < l.length
  · have k2i : decide ((500 : Int) < ((l.length : Nat) : Int)) = true := by rw [decide_eq_true_iff]; omega
    go_enter Tryd.func5, Tryd.ntmps5
    go_wp2_with fail
    refine (HS.out _ HL.out).mono ?_
    rintro x w1 ⟨rfl, hg⟩
    have HG1 := Lib.hid hg
    clear hg HS
    go_wp2
    go_ret
    exact ⟨rfl, HG1.out⟩
  have k2i : decide ((500 : Int) < ((l.length : Nat) : Int)) = false := by rw [decide_eq_false_iff_not]; omega
  cases hq : readQ l with
  | none =>
    have HR := Lib.hid (fun W hW => read_says (l := l) (xs := []) (r := []) (ok := false) (by rw [hq]; rfl) (by omega) W hW)
    clear hq k2 hl
    go_enter Tryd.func5, Tryd.ntmps5
    go_wp2_with fail
    refine (HS.out _ HL.out).mono ?_
    rintro x w1 ⟨rfl, hg⟩
    have HG1 := Lib.hid hg
    clear hg HS
    go_wp2_with fail
    refine (HR.out _ (HL.out.grow HG1.out)).mono ?_
    rintro x w2 ⟨B0, c0, rfl, _, _, hg⟩
    have HG2 := Lib.hid (HG1.out.trans hg)
    clear hg HR
    go_wp2
    go_ret
    exact ⟨rfl, HG2.out⟩
  | some p =>
    obtain ⟨cs, r⟩ := p
    obtain ⟨h1, h2, h3, h4⟩ := once_some hq
    have HR := Lib.hid (fun W hW => read_says (l := l) (xs := intsZ cs) (r := r) (ok := true) (by rw [hq]; rfl) (by omega) W hW)
    generalize intsZ cs = xs at *
    obtain ⟨n, hn⟩ : ∃ n, xs.length = n := ⟨_, rfl⟩
    have HN := Lib.hid hn
    have HT := Lib.hid (fun A c W h => text_says A n c xs W HN.out (by omega) h rfl h1)
    have hcat := str_app (textQ xs) r
    rw [h2] at hcat
    have hln : (textQ xs).length + r.length = l.length := by rw [← h2, List.length_append]
    have hs1 : ¬ 9223372036854775807 < (textQ xs).length + r.length := by omega
    generalize textQ xs = S at *
    clear hq k2 h1 h2 hl h4 hn hln
    go_enter Tryd.func5, Tryd.ntmps5
    go_wp2_with fail
    refine (HS.out _ HL.out).mono ?_
    rintro x w1 ⟨rfl, hg⟩
    have HG1 := Lib.hid hg
    clear hg HS
    go_wp2_with fail
    refine (HR.out _ (HL.out.grow HG1.out)).mono ?_
    rintro x w2 ⟨B0, c0, rfl, _, hnl, hg⟩
    have HG2 := Lib.hid (HG1.out.trans hg)
    have HNL := Lib.hid hnl
    rw [HN.out]
    clear hg HR hnl
    go_wp2_with fail
    refine (HT.out _ _ _ HNL.out).mono ?_
    rintro x w3 ⟨rfl, hg⟩
    have HG3 := Lib.hid (HG2.out.trans hg)
    clear hg HT HNL
    cases r with
    | nil =>
      clear h3
      go_wp2
      go_ret
      exact ⟨rfl, HG3.out⟩
    | cons c t =>
      have hix : ∀ W, (Instr.index 9 (.string ⟨(c :: t).toArray⟩) (.int .i64 0)).run Tryd.prog W = .ok (.int .u8 (c.toNat : Nat)) W := fun W => index_str (l := c :: t) (i := 0) rfl W
      have hc : c.toNat ≠ 39 := by
        intro e
        apply h3
        have : c = 39 := UInt8.toNat_inj.1 e
        rw [this]; rfl
      have hl0 : ((c :: t : List UInt8) == []) = false := rfl
      generalize c :: t = r at *
      generalize c.toNat = C at *
      have hCb : (((C : Nat) : Int) != 39) = true := by rw [bne_iff_ne]; omega
      clear h3 hc
      go_wp2
      go_ret
      exact ⟨rfl, HG3.out⟩
end Go.Proofs.YthmhpjjpjgmdaaaDoor
