/-
  FunctionBack comes to true, whatever it is called with.
-/
import Derived.Test.YtcnijmmpkahoaaaDoorSmall
import Derived.Test.YtcnijmmpkahoaaaDoorLaidIn
namespace Go.Proofs.YtcnijmmpkahoaaaDoor
open Go.RowKit Go.Lib
set_option linter.unusedSimpArgs false
set_option linter.unusedVariables false
set_option maxRecDepth 100000

theorem split_back {s : List UInt8} {ks : List (List UInt8)} {m : Nat} (e : splitD 10 s = ks) (em : ks.length = m) (h1 : m ≤ 1000) (h2 : ∀ x ∈ ks, x.length ≤ 1000) (h3 : sumL ks ≤ 10000) (hs : s.length ≤ 900000) (W : World) (hm : MaxAt W) : Calls Tryd.prog 21 #[.string ⟨s.toArray⟩] W (Lines ks m W) := by
  subst e
  exact (splitL_any s W hs hm).mono fun _ _ r => lines_of r em h1 h2 h3
set_option maxHeartbeats 12800000 in
theorem lback_walk (A : Option Addr) (n c : Nat) (ls : List (List UInt8)) (s : List UInt8) (w : World) (h : IsLines w A n c ls) (hL : Laid w) (hs : s.length ≤ 9223372036854775807) :
    Calls Tryd.prog 4 #[.slice A n c, .string ⟨s.toArray⟩] w (Fine w) := by
  have hsz := str_size s
  have hm : MaxAt w := hL
  have HM := Lib.hid hm
  have HS0 := Lib.hid (small_any w hm)
  have HIS := Lib.hid h
  clear hL hm h
  go_enter Tryd.func4, Tryd.ntmps4
  go_wp2_with fail
  refine (HS0.out).mono ?_
  rintro e x0 ⟨rfl, hg⟩
  have HGX0 := Lib.hid hg
  have HIS0 := Lib.hid (HIS.out.grow hg)
  obtain ⟨φ, hφ⟩ : ∃ φ, decide (fewL ls) = φ := ⟨_, rfl⟩
  have hfw := fewl_any A n c ls x0 HIS0.out
  rw [hφ] at hfw
  have HFW := Lib.hid hfw
  have HFI := Lib.hid hφ
  clear hg hφ hfw
  go_wp2_with fail
  refine (HFW.out).mono ?_
  rintro e x1 ⟨rfl, hg⟩
  have HGX1 := Lib.hid (HGX0.out.trans hg)
  have HIS1 := Lib.hid (HIS0.out.grow hg)
  clear hg HFW HGX0 HIS0 HIS HS0
  cases φ with
  | false =>
    go_wp2
    go_ret
    exact ⟨rfl, HGX1.out⟩
  | true =>
  have HFEW : Hid (fewL ls) := Lib.hid (of_decide_eq_true HFI.out)
  have HIN := Lib.hid (HIS1.out.few HFEW.out)
  clear HIS1 HFI
  by_cases h5 : 500 < s.length
  · have h5i : (500 : Int) < ((s.length : Nat) : Int) := by omega
    go_wp2
    go_ret
    exact ⟨rfl, HGX1.out⟩
  have h5i : ¬ (500 : Int) < ((s.length : Nat) : Int) := by omega
  by_cases h0 : n < 1
  · have h0i : decide (((n : Nat) : Int) < 1) = true := by rw [decide_eq_true_iff]; omega
    have h0n : decide (n < 1) = true := by rw [decide_eq_true_iff]; omega
    go_wp2
    go_ret
    exact ⟨rfl, HGX1.out⟩
  have h0i : decide (((n : Nat) : Int) < 1) = false := by rw [decide_eq_false_iff_not]; omega
  have h0n : decide (n < 1) = false := by rw [decide_eq_false_iff_not]; omega
  have HSL : Hid (s.length ≤ 500) := Lib.hid (by omega)
  have HNE : Hid (ls ≠ []) := Lib.hid (fun e => h0 (by rw [← HIN.out.len, e]; decide))
  obtain ⟨sp, hsp⟩ : ∃ sp, splitD 10 s = sp := ⟨_, rfl⟩
  have HSP := Lib.hid hsp
  obtain ⟨q, hq⟩ : ∃ q, sp.length = q := ⟨_, rfl⟩
  have HQ := Lib.hid hq
  have HJS : Hid (joinD sp = s) := Lib.hid (by rw [← hsp]; exact join_split s.length s (Nat.le_refl _))
  obtain ⟨jn, hjn⟩ : ∃ jn, joinD ls = jn := ⟨_, rfl⟩
  have HJ := Lib.hid hjn
  have HJL : Hid (jn.length ≤ 900000) := Lib.hid (by
    have h1 := join_len ls
    have h2 := HIN.out.sum
    have h3 := HIN.out.len
    have h4 := HIN.out.top
    rw [← hjn]
    omega)
  clear hsp hq hs h5 hjn h0
  have HINr := HIN
  have HMW := Lib.hid (HM.out.grow HGX1.out)
  have HS := Lib.hid (split_says HSP.out HQ.out (by have := HSL.out; omega) x1 HMW.out)
  go_wp2_with fail
  refine (HS.out).mono ?_
  rintro e x2 ⟨A5, c5, rfl, hl, hg⟩
  have HGX2 := Lib.hid (HGX1.out.trans (hg))
  have HINn := Lib.hid (HINr.out.grow hg)
  have HL5 := Lib.hid hl
  clear hl
  clear hg HS HMW HGX1 HIN HINr
  have HIN := HINn
  clear HINn
  have HINr := HIN
  have HL5r := HL5
  have HMW := Lib.hid (HM.out.grow HGX2.out)
  have HS := Lib.hid (HL5r.out.join HJS.out)
  go_wp2_with fail
  refine (HS.out).mono ?_
  rintro e x3 ⟨rfl, hg⟩
  have HGX3 := Lib.hid (HGX2.out.trans (hg))
  have HINn := Lib.hid (HINr.out.grow hg)
  have HL5n := Lib.hid (HL5r.out.grow hg)
  clear hg HS HMW HGX2 HIN HINr HL5 HL5r
  have HIN := HINn
  clear HINn
  have HL5 := HL5n
  clear HL5n
  clear HL5
  have hnt : n ≤ 1000 := HIN.out.top
  go_wp2
  go_loopg [7] n (fun g s7 wr => ∃ k : Nat, k ≤ n ∧ g = n - k ∧ s7 = .int .i64 k ∧ Hid ((ls.take k).all lineD = true) ∧ Hid (Grow x3 wr))
  case atStart => exact ⟨0, Nat.zero_le _, rfl, rfl, Lib.hid rfl, Lib.hid (Grow.refl _)⟩
  case round =>
    obtain ⟨k, hk, rfl, rfl, HA, HG⟩ := hrel
    by_cases hlt : k < n
    · have hkl : k < ls.length := by rw [HIN.out.len]; exact hlt
      obtain ⟨b, off, rfl, hbb, hcl⟩ := HIN.out.strs.grow HG.out (by omega)
      have hc := hcl k hkl
      have hx1 := getD_len HIN.out.each k
      have HST := Lib.hid (fun h => all_next (p := lineD) hkl HA.out h)
      have HNT := Lib.hid (fun h => all_not (p := lineD) hkl h)
      clear hcl hkl
      generalize ls.getD k [] = x at hc HST HNT hx1
      obtain ⟨ρ, hρ⟩ : ∃ ρ, lineD x = ρ := ⟨_, rfl⟩
      have HC := Lib.hid (line_says hρ wr (by omega))
      rw [hρ] at HST HNT
      clear hρ
      cases ρ with
      | true =>
        have HN2 := Lib.hid (HST.out rfl)
        clear HST HNT
        go_wp2_with fail
        refine (HC.out).mono ?_
        rintro e y2 ⟨rfl, hg⟩
        have HG2 := Lib.hid (HG.out.trans hg)
        clear hg
        go_wp2
        go_roundg (n - (k + 1))
        case rel => exact ⟨k + 1, by omega, rfl, by go_num, HN2, HG2⟩
        case measure => omega
      | false =>
        have HF : Hid ((headL ls).isSome = false) := Lib.hid (by rw [bad_lines (ls := ls) (.inr (.inr (HNT.out rfl)))]; rfl)
        clear HST HNT
        go_wp2_with fail
        refine (HC.out).mono ?_
        rintro e y2 ⟨rfl, hg⟩
        have HG2 := Lib.hid (HG.out.trans hg)
        have HG3 := Lib.hid (HGX3.out.trans HG2.out)
        have HS := Lib.hid ((HIN.out.grow HG2.out).right (HM.out.grow HG3.out) HF.out)
        clear hg hc
        go_wp2_with fail
        refine (HS.out).mono ?_
        rintro e y3 ⟨rfl, hg⟩
        have HG4 := Lib.hid (HG3.out.trans hg)
        clear hg
        go_wp2
        go_ret
        exact ⟨rfl, HG4.out⟩
    · obtain rfl : n = k := by omega
      have HAL := Lib.hid (all_done HIN.out.len HA.out)
      obtain ⟨y3, hy3⟩ : ∃ y3, y3 = wr := ⟨_, rfl⟩
      subst hy3
      have HGY3 := Lib.hid (HGX3.out.trans HG.out)
      have HIY := Lib.hid (HIN.out.grow HG.out)
      have HBK : Hid (splitD 10 jn = ls) := Lib.hid (by rw [← HJ.out]; exact split_join ls HNE.out (fun l hl => line_not (List.all_eq_true.1 HAL.out l hl)))
      have HS := Lib.hid (HIY.out.join HJ.out)
      go_wp2_with fail
      refine (HS.out).mono ?_
      rintro e y4 ⟨rfl, hg⟩
      have HGY4 := Lib.hid (HGY3.out.trans hg)
      have HIZ := Lib.hid (HIY.out.grow hg)
      have HS2 := Lib.hid (split_back HBK.out HIN.out.len HIN.out.top HIN.out.each HIN.out.sum HJL.out y4 (HM.out.grow HGY4.out))
      clear hg HS HIY
      go_wp2_with fail
      refine (HS2.out).mono ?_
      rintro e y5 ⟨A6, c6, rfl, hl, hg⟩
      have HGY5 := Lib.hid (HGY4.out.trans hg)
      have HS3 := Lib.hid (hl.same (HIZ.out.grow hg) (show decide (_ = _) = true from decide_eq_true rfl))
      clear hg hl HS2 HIZ
      go_wp2_with fail
      refine (HS3.out).mono ?_
      rintro e y6 ⟨rfl, hg⟩
      have HGY6 := Lib.hid (HGY5.out.trans hg)
      clear hg
      go_wp2
      go_ret
      exact ⟨rfl, HGY6.out⟩
end Go.Proofs.YtcnijmmpkahoaaaDoor
