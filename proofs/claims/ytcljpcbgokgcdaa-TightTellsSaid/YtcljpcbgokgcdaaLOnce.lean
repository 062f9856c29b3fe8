/-
  TightOnce comes to true, whatever it is called with.
-/
import Derived.Test.YtcljpcbgokgcdaaSmall
namespace Go.Proofs.Ytcljpcbgokgcdaa
open Go.RowKit Go.Lib
set_option linter.unusedSimpArgs false
set_option linter.unusedVariables false

theorem few_fine {w : World} {a : Option Addr} {len cap : Nat} {ns : List Nd} (h : IsNodes w a len cap ns) (hf : fewB ns = true) : Fine ns ∧ (ws ns).i ≤ 1099999 ∧ len ≤ 100 := by
  have hl := few_len hf
  refine ⟨⟨by omega, few_fits h hf, fun n hn => (h.2.2.2.2 n hn).2.2.2.2.2⟩, ?_, by have := h.1; omega⟩
  cases hr : rightA ns with
  | true => have := few_items hf hr; omega
  | false => rw [ws_none (right_no hr)]; decide

set_option maxRecDepth 10000 in
set_option maxHeartbeats 6400000 in
theorem once_walk (A : Option Addr) (n c : Nat) (xs : List Nd) (w : World) (hx : IsNodes w A n c xs) :
    Calls Try.prog 4 #[.slice A n c] w (Says true w) := by
  have HX := Lib.hid hx
  clear hx
  go_enter Try.func4, Try.ntmps4
  go_wp2_with fail
  refine (small_any _).mono ?_
  rintro e w1 ⟨rfl, hg1⟩
  have HG1 := Lib.hid hg1
  clear hg1
  go_wp2_with fail
  refine (few_any A n c xs w _ HX.out HG1.out).mono ?_
  rintro e w2 ⟨rfl, hg2⟩
  have HG2 := Lib.hid (HG1.out.trans hg2)
  clear hg2 HG1
  cases hfx : fewB xs with
  | false =>
    go_wp2
    go_ret
    exact ⟨rfl, HG2.out⟩
  | true =>
    obtain ⟨hfine, hwi, hn100⟩ := few_fine HX.out hfx
    have HFX := Lib.hid hfine
    have HWI := Lib.hid hwi
    have HN := Lib.hid HX.out.1
    have HNA := Lib.hid (HX.out.2.2.2.1.grow HG2.out)
    have hnc : n ≤ c := HX.out.2.1
    have hn6 : n ≤ 1100000 := by omega
    clear HX hfx hfine hwi
    go_wp2_with fail
    refine (make_any A n c xs _ HN.out hnc HFX.out HWI.out HNA.out).mono ?_
    rintro e w3 ⟨hg3, ⟨hr, rfl⟩ | ⟨hr, g, r, hgg, rfl, hrl, hcp⟩⟩
    · have HA := Lib.hid (aright_any A n c xs w3 HN.out hn6 HFX.out.2.1 (HNA.out.grow hg3))
      rw [hr] at HA
      have HG3 := Lib.hid (HG2.out.trans hg3)
      clear hg3 hr
      go_wp2_with fail
      refine (HA.out).mono ?_
      rintro e w4 ⟨rfl, hg4⟩
      go_wp2
      go_ret
      exact ⟨rfl, HG3.out.trans hg4⟩
    · obtain ⟨k1, k2, k3, k4, k5, k6, k7⟩ := form_right hr HFX.out
      obtain ⟨F, hF⟩ : ∃ F, formA xs = F := ⟨_, rfl⟩
      have HTR := Lib.hid (fun W h => tright_any A n c xs W HN.out hnc HFX.out HWI.out h)
      rw [hr, Bool.true_and, hF] at HTR
      rw [hF] at k1 k2 k3 k4 k5 k6 hrl hcp
      have HFF := Lib.hid k5
      have hrn : r ≤ n := by rw [← hrl, ← HN.out]; exact k2
      have hri : ((r : Nat) : Int) ≤ ((n : Nat) : Int) := by omega
      have HRL := Lib.hid hrl
      have hii : ((ws F).i : Int) ≤ ((ws xs).i : Int) := by omega
      have hdd : ((ws F).d : Int) ≤ ((ws xs).d : Int) := by omega
      have HFI : Hid ((ws F).i ≤ 1099999) := Lib.hid (by have := HWI.out; omega)
      have HFR := Lib.hid k1
      have HFO := Lib.hid k6
      have HR := Lib.hid hr
      have hr6 : r ≤ 1100000 := by omega
      have HG3 := Lib.hid (HG2.out.trans hg3)
      have HNA3 := Lib.hid (HNA.out.grow hg3)
      have HNF3 := Lib.hid hcp.nodes
      clear hg3 hcp hrl hF k1 k2 k3 k4 k5 k6 k7 hr hgg HG2 HNA
      go_wp2_with fail
      refine (make_any (some ⟨g, 0, none⟩) r r F w3 HRL.out (Nat.le_refl _) HFF.out HFI.out HNF3.out).mono ?_
      rintro e w4 ⟨hg4, ⟨hr2, _⟩ | ⟨hr2, g2, r2, hgg2, rfl, hrl2, hcp2⟩⟩
      · rw [HFR.out] at hr2; cases hr2
      rw [HFO.out] at hrl2 hcp2
      obtain rfl : r = r2 := by rw [← hrl2, HRL.out]
      have HNC4 := Lib.hid hcp2.nodes
      have HNA4 := Lib.hid (HNA3.out.grow hg4)
      have HNF4 := Lib.hid (HNF3.out.grow hg4)
      have HG4 := Lib.hid (HG3.out.trans hg4)
      clear hg4 hr2 hgg2 hrl2 hcp2 HNA3 HNF3 HG3
      have HA1 := Lib.hid (aright_any A n c xs w4 HN.out hn6 HFX.out.2.1 HNA4.out)
      rw [HR.out] at HA1
      go_wp2_with fail
      refine (HA1.out).mono ?_
      rintro e w5 ⟨rfl, hg5⟩
      have HNA5 := Lib.hid (HNA4.out.grow hg5)
      have HNF5 := Lib.hid (HNF4.out.grow hg5)
      have HNC5 := Lib.hid (HNC4.out.grow hg5)
      have HG5 := Lib.hid (HG4.out.trans hg5)
      clear hg5 HNA4 HNF4 HNC4 HG4 HA1
      have HA2 := Lib.hid (aright_any (some ⟨g, 0, none⟩) r r F w5 HRL.out hr6 HFF.out.2.1 HNF5.out)
      rw [HFR.out] at HA2
      go_wp2_with fail
      refine (HA2.out).mono ?_
      rintro e w6 ⟨rfl, hg6⟩
      have HNA6 := Lib.hid (HNA5.out.grow hg6)
      have HNF6 := Lib.hid (HNF5.out.grow hg6)
      have HNC6 := Lib.hid (HNC5.out.grow hg6)
      have HG6 := Lib.hid (HG5.out.trans hg6)
      clear hg6 HNA5 HNF5 HNC5 HG5 HA2
      go_wp2_with fail
      refine (trights (ns := F) (β := true) (by rw [HFR.out, HFO.out]; simp) HFI.out HFF.out (some ⟨g, 0, none⟩) r r w6 HRL.out (Nat.le_refl _) HNF6.out).mono ?_
      rintro e w7 ⟨rfl, hg7⟩
      have HNA7 := Lib.hid (HNA6.out.grow hg7)
      have HNF7 := Lib.hid (HNF6.out.grow hg7)
      have HNC7 := Lib.hid (HNC6.out.grow hg7)
      have HG7 := Lib.hid (HG6.out.trans hg7)
      clear hg7 HNA6 HNF6 HNC6 HG6
      go_wp2_with fail
      refine (rsames (xs := F) (ys := F) (β := true) (decide_eq_true rfl) HFF.out HFF.out (some ⟨g, 0, none⟩) (some ⟨g2, 0, none⟩) r r r r w7 HRL.out HRL.out HNF7.out HNC7.out).mono ?_
      rintro e w8 ⟨rfl, hg8⟩
      have HNA8 := Lib.hid (HNA7.out.grow hg8)
      have HNF8 := Lib.hid (HNF7.out.grow hg8)
      have HG8 := Lib.hid (HG7.out.trans hg8)
      clear hg8 HNA7 HNF7 HNC7 HG7
      go_wp2_with fail
      refine (items_any (some ⟨g, 0, none⟩) r r F w8 HRL.out hr6 HFF.out.2.1 HNF8.out).mono ?_
      rintro e w9 ⟨rfl, hg9⟩
      have HNA9 := Lib.hid (HNA8.out.grow hg9)
      have HNF9 := Lib.hid (HNF8.out.grow hg9)
      have HG9 := Lib.hid (HG8.out.trans hg9)
      clear hg9 HNA8 HNF8 HG8
      go_wp2_with fail
      refine (items_any A n c xs w9 HN.out hn6 HFX.out.2.1 HNA9.out).mono ?_
      rintro e w10 ⟨rfl, hg10⟩
      have HNA10 := Lib.hid (HNA9.out.grow hg10)
      have HNF10 := Lib.hid (HNF9.out.grow hg10)
      have HG10 := Lib.hid (HG9.out.trans hg10)
      clear hg10 HNA9 HNF9 HG9
      have HD1 := Lib.hid (fun W h => depth_any (some ⟨g, 0, none⟩) r r F W HRL.out hr6 HFF.out.2.1 h)
      have HD2 := Lib.hid (fun W h => depth_any A n c xs W HN.out hn6 HFX.out.2.1 h)
      have HSA := Lib.hid (fun W h1 h2 => rsameN_any A (some ⟨g, 0, none⟩) n r c r xs F W HN.out HRL.out hn6 hr6 HFX.out.2.1 HFF.out.2.1 h1 h2)
      generalize decide (xs = F) = β at *
      clear HWI HFI
      generalize (ws F).i = fi at *
      generalize (ws xs).i = xi at *
      generalize (ws F).d = fd at *
      generalize (ws xs).d = xd at *
      go_wp2_with fail
      refine (HD1.out _ HNF10.out).mono ?_
      rintro e w11 ⟨rfl, hg11⟩
      have HNA11 := Lib.hid (HNA10.out.grow hg11)
      have HNF11 := Lib.hid (HNF10.out.grow hg11)
      have HG11 := Lib.hid (HG10.out.trans hg11)
      clear hg11 HNA10 HNF10 HG10
      go_wp2_with fail
      refine (HD2.out _ HNA11.out).mono ?_
      rintro e w12 ⟨rfl, hg12⟩
      have HNA12 := Lib.hid (HNA11.out.grow hg12)
      have HNF12 := Lib.hid (HNF11.out.grow hg12)
      have HG12 := Lib.hid (HG11.out.trans hg12)
      clear hg12 HNA11 HNF11 HG11
      go_wp2_with fail
      refine (HTR.out _ HNA12.out).mono ?_
      rintro e w13 ⟨rfl, hg13⟩
      have HNA13 := Lib.hid (HNA12.out.grow hg13)
      have HNF13 := Lib.hid (HNF12.out.grow hg13)
      have HG13 := Lib.hid (HG12.out.trans hg13)
      clear hg13 HNA12 HNF12 HG12
      go_wp2_with fail
      refine (HSA.out _ HNA13.out HNF13.out).mono ?_
      rintro e w14 ⟨rfl, hg14⟩
      have HG14 := Lib.hid (HG13.out.trans hg14)
      clear hg14
      cases β with
      | true =>
        go_wp2
        go_ret
        exact ⟨rfl, HG14.out⟩
      | false =>
        go_wp2
        go_ret
        exact ⟨rfl, HG14.out⟩
end Go.Proofs.Ytcljpcbgokgcdaa
