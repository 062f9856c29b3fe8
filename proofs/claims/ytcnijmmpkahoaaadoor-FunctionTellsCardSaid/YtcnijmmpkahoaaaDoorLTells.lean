/-
  FunctionTells comes to true, whatever it is called with.
-/
import Derived.Test.YtcnijmmpkahoaaaDoorSmall
import Derived.Test.YtcnijmmpkahoaaaDoorLaidIn
namespace Go.Proofs.YtcnijmmpkahoaaaDoor
open Go.RowKit Go.Lib
set_option linter.unusedSimpArgs false
set_option linter.unusedVariables false
set_option maxRecDepth 100000

set_option maxHeartbeats 12800000 in
theorem ltells_walk (A : Option Addr) (n c : Nat) (ls : List (List UInt8)) (s : List UInt8) (w : World) (h : IsLines w A n c ls) (hL : Laid w) (hs : s.length ≤ 9223372036854775807) :
    Calls Tryd.prog 3 #[.slice A n c, .string ⟨s.toArray⟩] w (Fine w) := by
  have hsz := str_size s
  have hm : MaxAt w := hL
  have HM := Lib.hid hm
  have HS0 := Lib.hid (small_any w hm)
  have HIS := Lib.hid h
  clear hL hm h
  go_enter Tryd.func3, Tryd.ntmps3
  go_wp2_with fail
  refine (HS0.out).mono ?_
  rintro e x0 ⟨rfl, hg⟩
  have HGX0 := Lib.hid hg
  have HIS0 := Lib.hid (HIS.out.grow hg)
  obtain ⟨φ, hφ⟩ : ∃ φ, decide (fewL ls) = φ := ⟨_, rfl⟩
  have hfw := fewl_any A n c ls x0 HIS0.out
  rw [hφ] at hfw
  have HFW := Lib.hid hfw
  have HFI := Lib.hid hφ
  clear hg hφ hfw
  go_wp2_with fail
  refine (HFW.out).mono ?_
  rintro e x1 ⟨rfl, hg⟩
  have HGX1 := Lib.hid (HGX0.out.trans hg)
  have HIS1 := Lib.hid (HIS0.out.grow hg)
  clear hg HFW HGX0 HIS0 HIS HS0
  cases φ with
  | false =>
    go_wp2
    go_ret
    exact ⟨rfl, HGX1.out⟩
  | true =>
  have HFEW : Hid (fewL ls) := Lib.hid (of_decide_eq_true HFI.out)
  have HIN := Lib.hid (HIS1.out.few HFEW.out)
  clear HIS1 HFI
  by_cases h5 : 500 < s.length
  · have h5i : (500 : Int) < ((s.length : Nat) : Int) := by omega
    go_wp2
    go_ret
    exact ⟨rfl, HGX1.out⟩
  have h5i : ¬ (500 : Int) < ((s.length : Nat) : Int) := by omega
  have HSL : Hid (s.length ≤ 500) := Lib.hid (by omega)
  obtain ⟨β, hβ⟩ : ∃ β, lineD s = β := ⟨_, rfl⟩
  have HB := Lib.hid hβ
  obtain ⟨lab, hlab⟩ : ∃ lab, labelsD ls = lab := ⟨_, rfl⟩
  have HLB := Lib.hid hlab
  obtain ⟨m, hm⟩ : ∃ m, lab.length = m := ⟨_, rfl⟩
  have HMM := Lib.hid hm
  obtain ⟨ρ, hρ⟩ : ∃ ρ, (headL ls).isSome = ρ := ⟨_, rfl⟩
  have HR := Lib.hid hρ
  obtain ⟨nm, hnm⟩ : ∃ nm, nameL ls = nm := ⟨_, rfl⟩
  have HNM := Lib.hid hnm
  obtain ⟨jn, hjn⟩ : ∃ jn, joinD ls = jn := ⟨_, rfl⟩
  have HJ := Lib.hid hjn
  obtain ⟨sp, hsp⟩ : ∃ sp, splitD 10 s = sp := ⟨_, rfl⟩
  have HSP := Lib.hid hsp
  obtain ⟨q, hq⟩ : ∃ q, sp.length = q := ⟨_, rfl⟩
  have HQ := Lib.hid hq
  clear hβ hlab hm hρ hnm hjn hsp hq hs h5
  have HINr := HIN
  have HMW := Lib.hid (HM.out.grow HGX1.out)
  have HS := Lib.hid (line_says HB.out x1 (by have := HSL.out; omega))
  go_wp2_with fail
  refine (HS.out).mono ?_
  rintro e x2 ⟨rfl, hg⟩
  have HGX2 := Lib.hid (HGX1.out.trans (hg))
  have HINn := Lib.hid (HINr.out.grow hg)
  clear hg HS HMW HGX1 HIN HINr
  have HIN := HINn
  clear HINn
  have HINr := HIN
  have HMW := Lib.hid (HM.out.grow HGX2.out)
  have HS := Lib.hid (rline_says HB.out x2 (by have := HSL.out; omega))
  go_wp2_with fail
  refine (HS.out).mono ?_
  rintro e x3 ⟨rfl, hg⟩
  have HGX3 := Lib.hid (HGX2.out.trans (hg))
  have HINn := Lib.hid (HINr.out.grow hg)
  clear hg HS HMW HGX2 HIN HINr
  have HIN := HINn
  clear HINn
  have HINr := HIN
  have HMW := Lib.hid (HM.out.grow HGX3.out)
  have HS := Lib.hid (HINr.out.labels HMW.out HLB.out HMM.out)
  go_wp2_with fail
  refine (HS.out).mono ?_
  rintro e x4 ⟨A3, c3, rfl, hl, hg⟩
  have HGX4 := Lib.hid (HGX3.out.trans (hg))
  have HINn := Lib.hid (HINr.out.grow hg)
  have HL3 := Lib.hid hl
  clear hl
  clear hg HS HMW HGX3 HIN HINr
  have HIN := HINn
  clear HINn
  have HINr := HIN
  have HL3r := HL3
  have HMW := Lib.hid (HM.out.grow HGX4.out)
  have HS := Lib.hid (HINr.out.rlabels HLB.out HMM.out)
  go_wp2_with fail
  refine (HS.out).mono ?_
  rintro e x5 ⟨A4, c4, rfl, hl, hg⟩
  have HGX5 := Lib.hid (HGX4.out.trans (hg))
  have HINn := Lib.hid (HINr.out.grow hg)
  have HL3n := Lib.hid (HL3r.out.grow hg)
  have HL4 := Lib.hid hl
  clear hl
  clear hg HS HMW HGX4 HIN HINr HL3 HL3r
  have HIN := HINn
  clear HINn
  have HL3 := HL3n
  clear HL3n
  have HINr := HIN
  have HL3r := HL3
  have HL4r := HL4
  have HMW := Lib.hid (HM.out.grow HGX5.out)
  have HS := Lib.hid (HL3r.out.same HL4r.out (show decide (_ = _) = true from decide_eq_true rfl))
  go_wp2_with fail
  refine (HS.out).mono ?_
  rintro e x6 ⟨rfl, hg⟩
  have HGX6 := Lib.hid (HGX5.out.trans (hg))
  have HINn := Lib.hid (HINr.out.grow hg)
  have HL3n := Lib.hid (HL3r.out.grow hg)
  have HL4n := Lib.hid (HL4r.out.grow hg)
  clear hg HS HMW HGX5 HIN HINr HL3 HL3r HL4 HL4r
  have HIN := HINn
  clear HINn
  have HL3 := HL3n
  clear HL3n
  have HL4 := HL4n
  clear HL4n
  clear HL3 HL4
  have HINr := HIN
  have HMW := Lib.hid (HM.out.grow HGX6.out)
  have HS := Lib.hid (HINr.out.right HMW.out HR.out)
  go_wp2_with fail
  refine (HS.out).mono ?_
  rintro e x7 ⟨rfl, hg⟩
  have HGX7 := Lib.hid (HGX6.out.trans (hg))
  have HINn := Lib.hid (HINr.out.grow hg)
  clear hg HS HMW HGX6 HIN HINr
  have HIN := HINn
  clear HINn
  have HINr := HIN
  have HMW := Lib.hid (HM.out.grow HGX7.out)
  have HS := Lib.hid (HINr.out.rright HR.out)
  go_wp2_with fail
  refine (HS.out).mono ?_
  rintro e x8 ⟨rfl, hg⟩
  have HGX8 := Lib.hid (HGX7.out.trans (hg))
  have HINn := Lib.hid (HINr.out.grow hg)
  clear hg HS HMW HGX7 HIN HINr
  have HIN := HINn
  clear HINn
  have HINr := HIN
  have HMW := Lib.hid (HM.out.grow HGX8.out)
  have HS := Lib.hid (HINr.out.name HMW.out HNM.out)
  go_wp2_with fail
  refine (HS.out).mono ?_
  rintro e x9 ⟨rfl, hg⟩
  have HGX9 := Lib.hid (HGX8.out.trans (hg))
  have HINn := Lib.hid (HINr.out.grow hg)
  clear hg HS HMW HGX8 HIN HINr
  have HIN := HINn
  clear HINn
  have HINr := HIN
  have HMW := Lib.hid (HM.out.grow HGX9.out)
  have HS := Lib.hid (HINr.out.rname HNM.out)
  go_wp2_with fail
  refine (HS.out).mono ?_
  rintro e x10 ⟨rfl, hg⟩
  have HGX10 := Lib.hid (HGX9.out.trans (hg))
  have HINn := Lib.hid (HINr.out.grow hg)
  clear hg HS HMW HGX9 HIN HINr
  have HIN := HINn
  clear HINn
  have HINr := HIN
  have HMW := Lib.hid (HM.out.grow HGX10.out)
  have HS := Lib.hid (HINr.out.join HJ.out)
  go_wp2_with fail
  refine (HS.out).mono ?_
  rintro e x11 ⟨rfl, hg⟩
  have HGX11 := Lib.hid (HGX10.out.trans (hg))
  have HINn := Lib.hid (HINr.out.grow hg)
  clear hg HS HMW HGX10 HIN HINr
  have HIN := HINn
  clear HINn
  have HINr := HIN
  have HMW := Lib.hid (HM.out.grow HGX11.out)
  have HS := Lib.hid (HINr.out.rjoin HJ.out)
  go_wp2_with fail
  refine (HS.out).mono ?_
  rintro e x12 ⟨rfl, hg⟩
  have HGX12 := Lib.hid (HGX11.out.trans (hg))
  have HINn := Lib.hid (HINr.out.grow hg)
  clear hg HS HMW HGX11 HIN HINr
  have HIN := HINn
  clear HINn
  have HINr := HIN
  have HMW := Lib.hid (HM.out.grow HGX12.out)
  have HS := Lib.hid (split_says HSP.out HQ.out (by have := HSL.out; omega) x12 HMW.out)
  go_wp2_with fail
  refine (HS.out).mono ?_
  rintro e x13 ⟨A5, c5, rfl, hl, hg⟩
  have HGX13 := Lib.hid (HGX12.out.trans (hg))
  have HINn := Lib.hid (HINr.out.grow hg)
  have HL5 := Lib.hid hl
  clear hl
  clear hg HS HMW HGX12 HIN HINr
  have HIN := HINn
  clear HINn
  have HINr := HIN
  have HL5r := HL5
  have HMW := Lib.hid (HM.out.grow HGX13.out)
  have HS := Lib.hid (rsplit_says HSP.out HQ.out (by have := HSL.out; omega) x13)
  go_wp2_with fail
  refine (HS.out).mono ?_
  rintro e x14 ⟨A6, c6, rfl, hl, hg⟩
  have HGX14 := Lib.hid (HGX13.out.trans (hg))
  have HINn := Lib.hid (HINr.out.grow hg)
  have HL5n := Lib.hid (HL5r.out.grow hg)
  have HL6 := Lib.hid hl
  clear hl
  clear hg HS HMW HGX13 HIN HINr HL5 HL5r
  have HIN := HINn
  clear HINn
  have HL5 := HL5n
  clear HL5n
  have HINr := HIN
  have HL5r := HL5
  have HL6r := HL6
  have HMW := Lib.hid (HM.out.grow HGX14.out)
  have HS := Lib.hid (HL5r.out.same HL6r.out (show decide (_ = _) = true from decide_eq_true rfl))
  go_wp2_with fail
  refine (HS.out).mono ?_
  rintro e x15 ⟨rfl, hg⟩
  have HGX15 := Lib.hid (HGX14.out.trans (hg))
  have HINn := Lib.hid (HINr.out.grow hg)
  have HL5n := Lib.hid (HL5r.out.grow hg)
  have HL6n := Lib.hid (HL6r.out.grow hg)
  clear hg HS HMW HGX14 HIN HINr HL5 HL5r HL6 HL6r
  have HIN := HINn
  clear HINn
  have HL5 := HL5n
  clear HL5n
  have HL6 := HL6n
  clear HL6n
  go_wp2
  go_ret
  exact ⟨rfl, HGX15.out⟩
end Go.Proofs.YtcnijmmpkahoaaaDoor
