/-
  QuoteTells comes to true, whatever it is called with.
-/
import Derived.Test.YthmhpjjpjgmdaaaDoorRText
import Derived.Test.YthmhpjjpjgmdaaaDoorRRead
namespace Go.Proofs.YthmhpjjpjgmdaaaDoor
open Go.RowKit Go.Lib
set_option linter.unusedSimpArgs false
set_option linter.unusedVariables false

theorem mkL_len (l : List UInt8) : (mkL (readQ l)).1.length ≤ l.length := by
  cases h : readQ l with
  | none => simp [mkL]
  | some p =>
    obtain ⟨cs, r⟩ := p
    obtain ⟨h1, h2, _⟩ := read_inv h
    have h3 := congrArg List.length h2
    rw [List.length_append, inQ_len] at h3
    have h4 : cs.length ≤ (qT cs).length := by
      clear h h2 h3
      induction cs with
      | nil => simp
      | cons c t ih =>
        have := qC_pos (h1 c (by simp))
        have := ih (fun d hd => h1 d (by simp [hd]))
        show _ ≤ (qC c ++ qT t).length
        rw [List.length_append, List.length_cons]
        omega
    show (intsZ cs).length ≤ _
    rw [ints_len]
    omega

set_option maxRecDepth 100000 in
set_option maxHeartbeats 3200000 in
theorem ltells_walk (A : Option Addr) (n cap : Nat) (xs : List Int) (l : List UInt8) (w : World) (hL : Laid w) (hn : xs.length = n) (hm : n ≤ 9223372036854775807) (hl : l.length ≤ 9223372036854775807) (hr : Nums .i64 w w.heap.size A xs) (hi : ∀ x ∈ xs, In x) :
    Calls Tryd.prog 3 #[.slice A n cap, .string ⟨l.toArray⟩] w (Fine w) := by
  have HS := Lib.hid (fun W h => small_any W h)
  have HL := Lib.hid hL
  have HR := Lib.hid hr
  have HN := Lib.hid hn
  have HIN := Lib.hid hi
  clear hL hr hn hi
  by_cases k1 : 100 < n
  · have k1i : decide ((100 : Int) < ((n : Nat) : Int)) = true := by rw [decide_eq_true_iff]; omega
    go_enter Tryd.func3, Tryd.ntmps3
    go_wp2_with fail
    refine (HS.out _ HL.out).mono ?_
    rintro x w1 ⟨rfl, hg⟩
    have HG1 := Lib.hid hg
    clear hg HS
    go_wp2
    go_ret
    exact ⟨rfl, HG1.out⟩
  have k1i : decide ((100 : Int) < ((n : Nat) : Int)) = false := by rw [decide_eq_false_iff_not]; omega
  by_cases k2 : 500 < l.length
  · have k2i : decide ((500 : Int) < ((l.length : Nat) : Int)) = true := by rw [decide_eq_true_iff]; omega
    go_enter Tryd.func3, Tryd.ntmps3
    go_wp2_with fail
    refine (HS.out _ HL.out).mono ?_
    rintro x w1 ⟨rfl, hg⟩
    have HG1 := Lib.hid hg
    clear hg HS
    go_wp2
    go_ret
    exact ⟨rfl, HG1.out⟩
  have k2i : decide ((500 : Int) < ((l.length : Nat) : Int)) = false := by rw [decide_eq_false_iff_not]; omega
  have HT1 := Lib.hid (fun W h => text_any A n cap xs W HN.out (by omega) h)
  have HT2 := Lib.hid (fun W h => rtext_any A n cap xs W HN.out (by omega) h HIN.out)
  have HR1 := Lib.hid (fun W hW => read_any l (by omega) W hW)
  have HR2 := Lib.hid (fun W => rread_any l (by omega) W)
  have hzl := mkL_len l
  obtain ⟨⟨zs, r, ok⟩, hz⟩ : ∃ z, mkL (readQ l) = z := ⟨_, rfl⟩
  rw [hz] at HR1 HR2 hzl
  dsimp only at HR1 HR2 hzl
  obtain ⟨m, hmz⟩ : ∃ m, zs.length = m := ⟨_, rfl⟩
  have HM := Lib.hid hmz
  have hm2 : m ≤ 1000000 := by omega
  clear hz hzl hmz k1 k2 hl hm
  generalize textQ xs = S at *
  generalize xs.all signZ = b at *
  go_enter Tryd.func3, Tryd.ntmps3
  go_wp2_with fail
  refine (HS.out _ HL.out).mono ?_
  rintro x w1 ⟨rfl, hg⟩
  have HG1 := Lib.hid hg
  clear hg HS
  go_wp2_with fail
  refine (HT1.out _ (HR.out.grow HG1.out)).mono ?_
  rintro x w2 ⟨rfl, hg⟩
  have HG2 := Lib.hid (HG1.out.trans hg)
  clear hg HT1 HG1 k1i k2i
  go_wp2_with fail
  refine (HT2.out _ (HR.out.grow HG2.out)).mono ?_
  rintro x w3 ⟨rfl, hg⟩
  have HG3 := Lib.hid (HG2.out.trans hg)
  clear hg HT2 HG2
  go_wp2_with fail
  refine (HR1.out _ (HL.out.grow HG3.out)).mono ?_
  rintro x w4 ⟨A1, c1, rfl, _, hnl, hg⟩
  have HG4 := Lib.hid (HG3.out.trans hg)
  have HN1 := Lib.hid hnl
  rw [HM.out]
  clear hg HR1 HG3 hnl
  go_wp2_with fail
  refine (HR2.out _).mono ?_
  rintro x w5 ⟨A2, c2, rfl, _, hnl, hg⟩
  have HG5 := Lib.hid (HG4.out.trans hg)
  have HSM := Lib.hid (same_eq A1 A2 m c1 c2 zs w5 HM.out hm2 (HN1.out.grow hg) hnl)
  rw [HM.out]
  clear hg HR2 HG4 hnl HN1
  go_wp2_with fail
  refine (HSM.out).mono ?_
  rintro x w6 ⟨rfl, hg⟩
  have HG6 := Lib.hid (HG5.out.trans hg)
  clear hg HSM HG5
  go_wp2
  go_ret
  exact ⟨rfl, HG6.out⟩
end Go.Proofs.YthmhpjjpjgmdaaaDoor
