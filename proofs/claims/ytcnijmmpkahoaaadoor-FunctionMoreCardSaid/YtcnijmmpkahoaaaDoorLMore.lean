/-
  FunctionMore comes to true, whatever it is called with.
-/
import Derived.Test.YtcnijmmpkahoaaaDoorSmall
import Derived.Test.YtcnijmmpkahoaaaDoorLaidIn
namespace Go.Proofs.YtcnijmmpkahoaaaDoor
open Go.RowKit Go.Lib
set_option linter.unusedSimpArgs false
set_option linter.unusedVariables false
set_option maxRecDepth 100000

set_option maxHeartbeats 12800000 in
theorem lmore_walk (A : Option Addr) (n c : Nat) (ls : List (List UInt8)) (s : List UInt8) (w : World) (h : IsLines w A n c ls) (hL : Laid w) (hs : s.length ≤ 9223372036854775807) :
    Calls Tryd.prog 6 #[.slice A n c, .string ⟨s.toArray⟩] w (Fine w) := by
  have hsz := str_size s
  have hm : MaxAt w := hL
  have HM := Lib.hid hm
  have HS0 := Lib.hid (small_any w hm)
  have HIS := Lib.hid h
  clear hL hm h
  go_enter Tryd.func6, Tryd.ntmps6
  go_wp2_with fail
  refine (HS0.out).mono ?_
  rintro e x0 ⟨rfl, hg⟩
  have HGX0 := Lib.hid hg
  have HIS0 := Lib.hid (HIS.out.grow hg)
  obtain ⟨φ, hφ⟩ : ∃ φ, decide (fewL ls) = φ := ⟨_, rfl⟩
  have hfw := fewl_any A n c ls x0 HIS0.out
  rw [hφ] at hfw
  have HFW := Lib.hid hfw
  have HFI := Lib.hid hφ
  clear hg hφ hfw
  go_wp2_with fail
  refine (HFW.out).mono ?_
  rintro e x1 ⟨rfl, hg⟩
  have HGX1 := Lib.hid (HGX0.out.trans hg)
  have HIS1 := Lib.hid (HIS0.out.grow hg)
  clear hg HFW HGX0 HIS0 HIS HS0
  cases φ with
  | false =>
    go_wp2
    go_ret
    exact ⟨rfl, HGX1.out⟩
  | true =>
  have HFEW : Hid (fewL ls) := Lib.hid (of_decide_eq_true HFI.out)
  have HIN := Lib.hid (HIS1.out.few HFEW.out)
  clear HIS1 HFI
  by_cases h5 : 200 < s.length
  · have h5i : (200 : Int) < ((s.length : Nat) : Int) := by omega
    go_wp2
    go_ret
    exact ⟨rfl, HGX1.out⟩
  have h5i : ¬ (200 : Int) < ((s.length : Nat) : Int) := by omega
  by_cases h0 : n < 1
  · have h0i : decide (((n : Nat) : Int) < 1) = true := by rw [decide_eq_true_iff]; omega
    have h0n : decide (n < 1) = true := by rw [decide_eq_true_iff]; omega
    go_wp2
    go_ret
    exact ⟨rfl, HGX1.out⟩
  have h0i : decide (((n : Nat) : Int) < 1) = false := by rw [decide_eq_false_iff_not]; omega
  have h0n : decide (n < 1) = false := by rw [decide_eq_false_iff_not]; omega
  have HSL : Hid (s.length ≤ 200) := Lib.hid (by omega)
  have HNE : Hid (ls ≠ []) := Lib.hid (fun e => h0 (by rw [← HIN.out.len, e]; decide))
  have HL50 : Hid (ls.length ≤ 50) := Lib.hid (few_lines HFEW.out).1
  have HSUM : Hid (sumL ls ≤ 2000) := Lib.hid (few_lines HFEW.out).2.2
  have hga := grow_new x1 (.cells #[] 9)
  have HO2 : Hid (OwnS x1.heap.size (.slice (some ⟨x1.heap.size, 0, none⟩) 0 0) [] (x1.alloc (.cells #[] 9))) := Lib.hid (ownS_lit x1 [] (by simp))
  have HS2 := Lib.hid (HIN.out.strs.grow hga)
  have HZ2 : Hid (x1.heap.size ≤ (x1.alloc (.cells #[] 9)).heap.size) := Lib.hid hga.size
  have HT2 : Hid (([] : List (List UInt8)).length + ls.length ≤ 1000000000) := Lib.hid (by have := HL50.out; simp; omega)
  have HT3 : Hid (([] ++ ls).length + [s].length ≤ 1000000000) := Lib.hid (by have := HL50.out; simp; omega)
  have HGA := Lib.hid hga
  clear hga h0 h5 hs
  go_upto_region 6 with (at_builtin; first
    | (refine wpList_append_any rfl _ _ rfl x1.heap.size _ [] ls A n c rfl HO2.out rfl HIN.out.len HIN.out.none HS2.out HT2.out HZ2.out ?_
       intro v7 w7 HO7 HBL7)
    | (refine wpList_append_any rfl _ _ rfl x1.heap.size v7 ([] ++ ls) [s] (some ⟨w7.heap.size, 0, none⟩) 1 1 rfl (HO7.grow (grow_new w7 (.cells #[.string ⟨s.toArray⟩] 9))) rfl rfl (fun e => by cases e) (strs_lit w7 [s]) HT3.out (Nat.le_trans HZ2.out (Nat.le_trans HBL7.size (grow_new w7 (.cells #[.string ⟨s.toArray⟩] 9)).size)) ?_
       intro v8 x2 HO8 HBL8
       have HBB := Lib.hid (show Grow x1 x2 from Below.trans (show Below x1.heap.size x1 _ from HGA.out) (Below.trans HBL7 (Below.trans (Below.mono (grow_new w7 (.cells #[.string ⟨s.toArray⟩] 9)) (Nat.le_trans HZ2.out HBL7.size)) HBL8)))
       have HO9 := Lib.hid HO8
       clear HO8 HBL8 HBL7 HO7))
  have HGX2 := Lib.hid (HGX1.out.trans HBB.out)
  obtain ⟨more, hmore⟩ : ∃ more, ls ++ [s] = more := ⟨_, rfl⟩
  have HMO := Lib.hid hmore
  have howr : OwnR more x1 (.returned v8) x2 := ⟨v8, rfl, by rw [← hmore]; exact HO9.out, HBB.out⟩
  obtain ⟨n8, hn8⟩ : ∃ n8, more.length = n8 := ⟨_, rfl⟩
  have hn8' : n8 = n + 1 := by rw [← hn8, ← hmore, List.length_append, HIN.out.len]; rfl
  obtain ⟨A8, c8, e8, hl8, _⟩ := lines_of howr hn8 (by have h1 := HL50.out; have h2 := HIN.out.len; omega) (fun x hx => by
    rw [← hmore] at hx
    rcases List.mem_append.1 hx with hx | hx
    · exact HIN.out.each x hx
    · have e : x = s := by simpa using hx
      rw [e]
      have := HSL.out
      omega) (by
    rw [← hmore, sum_app]
    have h1 := HSUM.out
    have h2 := HSL.out
    show sumL ls + (s.length + 0) ≤ 10000
    omega)
  injection e8 with e8
  subst e8
  have HIM := Lib.hid hl8
  have HIN2 := Lib.hid (HIN.out.grow HBB.out)
  clear HIN hl8 howr hn8 hn8' HO9 HBB HO2 HS2 HZ2 HT2 HT3 HGA hmore
  have HIN := HIN2
  clear HIN2
  obtain ⟨lab, hlab⟩ : ∃ lab, labelsD ls = lab := ⟨_, rfl⟩
  obtain ⟨m, hm⟩ : ∃ m, lab.length = m := ⟨_, rfl⟩
  have HLB := Lib.hid hlab
  have HMM := Lib.hid hm
  obtain ⟨ρ, hρ⟩ : ∃ ρ, (headL ls).isSome = ρ := ⟨_, rfl⟩
  have HR := Lib.hid hρ
  have hn999 : ls.length ≤ 999 := by have := HL50.out; omega
  by_cases hs0 : labelD s = []
  · have HLB2 : Hid (labelsD more = lab) := Lib.hid (by rw [← HMO.out, labels_app HNE.out, if_pos hs0, hlab])
    obtain ⟨β, hβ⟩ : ∃ β, lineD s = β := ⟨_, rfl⟩
    have HB := Lib.hid hβ
    have HR2 : Hid ((headL more).isSome = (ρ && β)) := Lib.hid (by rw [← HMO.out, more_plain HNE.out hn999 hs0, hρ, hβ])
    clear hs0 hlab hm hρ hβ hn999
    have HINr := HIN
    have HIMr := HIM
    have HMW := Lib.hid (HM.out.grow HGX2.out)
    have HS := Lib.hid (HIMr.out.labels HMW.out HLB2.out HMM.out)
    go_wp2_with fail
    refine (HS.out).mono ?_
    rintro e x3 ⟨A3, c3, rfl, hl, hg⟩
    have HGX3 := Lib.hid (HGX2.out.trans (hg))
    have HINn := Lib.hid (HINr.out.grow hg)
    have HIMn := Lib.hid (HIMr.out.grow hg)
    have HL3 := Lib.hid hl
    clear hl
    clear hg HS HMW HGX2 HIN HINr HIM HIMr
    have HIN := HINn
    clear HINn
    have HIM := HIMn
    clear HIMn
    have HINr := HIN
    have HIMr := HIM
    have HL3r := HL3
    have HMW := Lib.hid (HM.out.grow HGX3.out)
    have HS := Lib.hid (HINr.out.labels HMW.out HLB.out HMM.out)
    go_wp2_with fail
    refine (HS.out).mono ?_
    rintro e x4 ⟨A4, c4, rfl, hl, hg⟩
    have HGX4 := Lib.hid (HGX3.out.trans (hg))
    have HINn := Lib.hid (HINr.out.grow hg)
    have HIMn := Lib.hid (HIMr.out.grow hg)
    have HL3n := Lib.hid (HL3r.out.grow hg)
    have HL4 := Lib.hid hl
    clear hl
    clear hg HS HMW HGX3 HIN HINr HIM HIMr HL3 HL3r
    have HIN := HINn
    clear HINn
    have HIM := HIMn
    clear HIMn
    have HL3 := HL3n
    clear HL3n
    have HINr := HIN
    have HIMr := HIM
    have HL3r := HL3
    have HMW := Lib.hid (HM.out.grow HGX4.out)
    have HS := Lib.hid (HIMr.out.right HMW.out HR2.out)
    go_wp2_with fail
    refine (HS.out).mono ?_
    rintro e x5 ⟨rfl, hg⟩
    have HGX5 := Lib.hid (HGX4.out.trans (hg))
    have HINn := Lib.hid (HINr.out.grow hg)
    have HIMn := Lib.hid (HIMr.out.grow hg)
    have HL3n := Lib.hid (HL3r.out.grow hg)
    clear hg HS HMW HGX4 HIN HINr HIM HIMr HL3 HL3r
    have HIN := HINn
    clear HINn
    have HIM := HIMn
    clear HIMn
    have HL3 := HL3n
    clear HL3n
    have HINr := HIN
    have HIMr := HIM
    have HL3r := HL3
    have HMW := Lib.hid (HM.out.grow HGX5.out)
    have HS := Lib.hid (HINr.out.right HMW.out HR.out)
    go_wp2_with fail
    refine (HS.out).mono ?_
    rintro e x6 ⟨rfl, hg⟩
    have HGX6 := Lib.hid (HGX5.out.trans (hg))
    have HINn := Lib.hid (HINr.out.grow hg)
    have HIMn := Lib.hid (HIMr.out.grow hg)
    have HL3n := Lib.hid (HL3r.out.grow hg)
    clear hg HS HMW HGX5 HIN HINr HIM HIMr HL3 HL3r
    have HIN := HINn
    clear HINn
    have HIM := HIMn
    clear HIMn
    have HL3 := HL3n
    clear HL3n
    clear HL4
    cases ρ with
    | false =>
      have HINr := HIN
      have HIMr := HIM
      have HL3r := HL3
      have HMW := Lib.hid (HM.out.grow HGX6.out)
      have HS := Lib.hid (HINr.out.labels HMW.out HLB.out HMM.out)
      go_wp2_with fail
      refine (HS.out).mono ?_
      rintro e x7 ⟨A4, c4, rfl, hl, hg⟩
      have HGX7 := Lib.hid (HGX6.out.trans (hg))
      have HINn := Lib.hid (HINr.out.grow hg)
      have HIMn := Lib.hid (HIMr.out.grow hg)
      have HL3n := Lib.hid (HL3r.out.grow hg)
      have HL4 := Lib.hid hl
      clear hl
      clear hg HS HMW HGX6 HIN HINr HIM HIMr HL3 HL3r
      have HIN := HINn
      clear HINn
      have HIM := HIMn
      clear HIMn
      have HL3 := HL3n
      clear HL3n
      have HL3r := HL3
      have HL4r := HL4
      have HMW := Lib.hid (HM.out.grow HGX7.out)
      have HS := Lib.hid (HL3r.out.same HL4r.out (show decide (_ = _) = true from decide_eq_true rfl))
      go_wp2_with fail
      refine (HS.out).mono ?_
      rintro e x8 ⟨rfl, hg⟩
      have HGX8 := Lib.hid (HGX7.out.trans (hg))
      have HL3n := Lib.hid (HL3r.out.grow hg)
      have HL4n := Lib.hid (HL4r.out.grow hg)
      clear hg HS HMW HGX7 HL3 HL3r HL4 HL4r
      have HL3 := HL3n
      clear HL3n
      have HL4 := HL4n
      clear HL4n
      go_wp2
      go_ret
      exact ⟨rfl, HGX8.out⟩
    | true =>
      have HINr := HIN
      have HIMr := HIM
      have HL3r := HL3
      have HMW := Lib.hid (HM.out.grow HGX6.out)
      have HS := Lib.hid (line_says HB.out x6 (by have := HSL.out; omega))
      go_wp2_with fail
      refine (HS.out).mono ?_
      rintro e x7 ⟨rfl, hg⟩
      have HGX7 := Lib.hid (HGX6.out.trans (hg))
      have HINn := Lib.hid (HINr.out.grow hg)
      have HIMn := Lib.hid (HIMr.out.grow hg)
      have HL3n := Lib.hid (HL3r.out.grow hg)
      clear hg HS HMW HGX6 HIN HINr HIM HIMr HL3 HL3r
      have HIN := HINn
      clear HINn
      have HIM := HIMn
      clear HIMn
      have HL3 := HL3n
      clear HL3n
      have HINr := HIN
      have HIMr := HIM
      have HL3r := HL3
      have HMW := Lib.hid (HM.out.grow HGX7.out)
      have HS := Lib.hid (HINr.out.labels HMW.out HLB.out HMM.out)
      go_wp2_with fail
      refine (HS.out).mono ?_
      rintro e x8 ⟨A4, c4, rfl, hl, hg⟩
      have HGX8 := Lib.hid (HGX7.out.trans (hg))
      have HINn := Lib.hid (HINr.out.grow hg)
      have HIMn := Lib.hid (HIMr.out.grow hg)
      have HL3n := Lib.hid (HL3r.out.grow hg)
      have HL4 := Lib.hid hl
      clear hl
      clear hg HS HMW HGX7 HIN HINr HIM HIMr HL3 HL3r
      have HIN := HINn
      clear HINn
      have HIM := HIMn
      clear HIMn
      have HL3 := HL3n
      clear HL3n
      have HL3r := HL3
      have HL4r := HL4
      have HMW := Lib.hid (HM.out.grow HGX8.out)
      have HS := Lib.hid (HL3r.out.same HL4r.out (show decide (_ = _) = true from decide_eq_true rfl))
      go_wp2_with fail
      refine (HS.out).mono ?_
      rintro e x9 ⟨rfl, hg⟩
      have HGX9 := Lib.hid (HGX8.out.trans (hg))
      have HL3n := Lib.hid (HL3r.out.grow hg)
      have HL4n := Lib.hid (HL4r.out.grow hg)
      clear hg HS HMW HGX8 HL3 HL3r HL4 HL4r
      have HL3 := HL3n
      clear HL3n
      have HL4 := HL4n
      clear HL4n
      cases β
      · go_wp2
        go_ret
        exact ⟨rfl, HGX9.out⟩
      · go_wp2
        go_ret
        exact ⟨rfl, HGX9.out⟩
  · obtain ⟨lab2, hlab2⟩ : ∃ lab2, labelsD more = lab2 := ⟨_, rfl⟩
    have HLB2 := Lib.hid hlab2
    have hm2 : lab2.length = m + 1 := by rw [← hlab2, ← HMO.out, labels_app HNE.out, if_neg hs0, hlab, List.length_append, hm]; rfl
    obtain ⟨m2, hm2e⟩ : ∃ m2, m + 1 = m2 := ⟨_, rfl⟩
    rw [hm2e] at hm2
    have HMM2 := Lib.hid hm2
    have hmi : (((m2 : Nat) : Int) == ((m : Nat) : Int)) = false := by rw [beq_eq_false_iff_ne]; omega
    have hmn : (m2 == m) = false := by rw [beq_eq_false_iff_ne]; omega
    have hmw : IntKind.i64.wrap (((m : Nat) : Int) + 1) = ((m2 : Nat) : Int) := by
      have h1 := labels_len ls
      rw [hlab, hm] at h1
      have h2 := HL50.out
      rw [IntKind.wrap_i64]
      omega
    obtain ⟨σ, hσ⟩ : ∃ σ, (headL more).isSome = σ := ⟨_, rfl⟩
    have HR2 := Lib.hid hσ
    have HIMP : Hid ((!σ || ρ) = true) := Lib.hid (by rw [← hσ, ← hρ, ← HMO.out]; exact more_label HNE.out hn999 hs0)
    clear hs0 hlab hm hρ hn999 hlab2 hm2 hσ hm2e
    have HINr := HIN
    have HIMr := HIM
    have HMW := Lib.hid (HM.out.grow HGX2.out)
    have HS := Lib.hid (HIMr.out.labels HMW.out HLB2.out HMM2.out)
    go_wp2_with fail
    refine (HS.out).mono ?_
    rintro e x3 ⟨A3, c3, rfl, hl, hg⟩
    have HGX3 := Lib.hid (HGX2.out.trans (hg))
    have HINn := Lib.hid (HINr.out.grow hg)
    have HIMn := Lib.hid (HIMr.out.grow hg)
    have HL3 := Lib.hid hl
    clear hl
    clear hg HS HMW HGX2 HIN HINr HIM HIMr
    have HIN := HINn
    clear HINn
    have HIM := HIMn
    clear HIMn
    have HINr := HIN
    have HIMr := HIM
    have HMW := Lib.hid (HM.out.grow HGX3.out)
    have HS := Lib.hid (HINr.out.labels HMW.out HLB.out HMM.out)
    go_wp2_with fail
    refine (HS.out).mono ?_
    rintro e x4 ⟨A4, c4, rfl, hl, hg⟩
    have HGX4 := Lib.hid (HGX3.out.trans (hg))
    have HINn := Lib.hid (HINr.out.grow hg)
    have HIMn := Lib.hid (HIMr.out.grow hg)
    have HL4 := Lib.hid hl
    clear hl
    clear hg HS HMW HGX3 HIN HINr HIM HIMr
    have HIN := HINn
    clear HINn
    have HIM := HIMn
    clear HIMn
    clear HL4
    have HINr := HIN
    have HIMr := HIM
    have HMW := Lib.hid (HM.out.grow HGX4.out)
    have HS := Lib.hid (HINr.out.labels HMW.out HLB.out HMM.out)
    go_wp2_with fail
    refine (HS.out).mono ?_
    rintro e x5 ⟨A4, c4, rfl, hl, hg⟩
    have HGX5 := Lib.hid (HGX4.out.trans (hg))
    have HINn := Lib.hid (HINr.out.grow hg)
    have HIMn := Lib.hid (HIMr.out.grow hg)
    have HL4 := Lib.hid hl
    clear hl
    clear hg HS HMW HGX4 HIN HINr HIM HIMr
    have HIN := HINn
    clear HINn
    have HIM := HIMn
    clear HIMn
    have HINr := HIN
    have HIMr := HIM
    have HMW := Lib.hid (HM.out.grow HGX5.out)
    have HS := Lib.hid (HIMr.out.right HMW.out HR2.out)
    go_wp2_with fail
    refine (HS.out).mono ?_
    rintro e x6 ⟨rfl, hg⟩
    have HGX6 := Lib.hid (HGX5.out.trans (hg))
    have HINn := Lib.hid (HINr.out.grow hg)
    have HIMn := Lib.hid (HIMr.out.grow hg)
    clear hg HS HMW HGX5 HIN HINr HIM HIMr
    have HIN := HINn
    clear HINn
    have HIM := HIMn
    clear HIMn
    cases σ with
    | false =>
      go_wp2
      go_ret
      exact ⟨rfl, HGX6.out⟩
    | true =>
      have hρ1 : ρ = true := by simpa using HIMP.out
      subst hρ1
      have HINr := HIN
      have HMW := Lib.hid (HM.out.grow HGX6.out)
      have HS := Lib.hid (HINr.out.right HMW.out HR.out)
      go_wp2_with fail
      refine (HS.out).mono ?_
      rintro e x7 ⟨rfl, hg⟩
      have HGX7 := Lib.hid (HGX6.out.trans (hg))
      have HINn := Lib.hid (HINr.out.grow hg)
      clear hg HS HMW HGX6 HIN HINr
      have HIN := HINn
      clear HINn
      go_wp2
      go_ret
      exact ⟨rfl, HGX7.out⟩
end Go.Proofs.YtcnijmmpkahoaaaDoor
