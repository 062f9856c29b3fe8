/-
  TightAlone comes to true, whatever it is called with.
-/
import Derived.Test.YtcljpcbgokgcdaaLOnce
import Derived.Test.YtcljpcbgokgcdaaTightA
import Derived.Test.YtcljpcbgokgcdaaBigMake
namespace Go.Proofs.Ytcljpcbgokgcdaa
open Go.RowKit Go.Lib
set_option linter.unusedSimpArgs false
set_option linter.unusedVariables false

theorem fine_box {F : List Nd} (h : Fine F) (hl : F.length ≤ 1000) : Fine (nest5 [] :: F) := by
  refine ⟨by rw [List.length_cons]; omega, fits_cons ⟨⟨show (-9223372036854775808 : Int) ≤ 5 by decide, show (5 : Int) ≤ 9223372036854775807 by decide⟩, Nat.zero_le _, Nat.zero_le _, Nat.zero_le _, fun x hx => by cases hx⟩ h.2.1, fun n hn => ?_⟩
  rcases List.mem_cons.1 hn with rfl | hn
  · intro x hx; cases hx
  · exact h.2.2 n hn

set_option maxRecDepth 10000 in
set_option maxHeartbeats 6400000 in
theorem alone_walk (A : Option Addr) (n c : Nat) (xs : List Nd) (w : World) (hx : IsNodes w A n c xs) :
    Calls Try.prog 6 #[.slice A n c] w (Says true w) := by
  have HX := Lib.hid hx
  clear hx
  go_enter Try.func6, Try.ntmps6
  go_wp2_with fail
  refine (small_any _).mono ?_
  rintro e w1 ⟨rfl, hg1⟩
  have HG1 := Lib.hid hg1
  clear hg1
  go_wp2_with fail
  refine (few_any A n c xs w _ HX.out HG1.out).mono ?_
  rintro e w2 ⟨rfl, hg2⟩
  have HG2 := Lib.hid (HG1.out.trans hg2)
  clear hg2 HG1
  go_wp2_with fail
  refine (makeB_any A n c xs w _ HX.out HG2.out).mono ?_
  rintro e w3 ⟨hg3, ⟨hr, rfl⟩ | ⟨hr, g, r, hgg, rfl, hrl, hcp⟩⟩
  · have HG3 := Lib.hid (HG2.out.trans hg3)
    clear hg3 hr
    cases hfx : fewB xs with
    | false =>
      clear hfx
      go_wp2
      go_ret
      exact ⟨rfl, HG3.out⟩
    | true =>
      clear hfx
      go_wp2
      go_ret
      exact ⟨rfl, HG3.out⟩
  cases hfx : fewB xs with
  | false =>
    have HG3 := Lib.hid (HG2.out.trans hg3)
    clear hg3 hr hfx hrl hcp hgg
    go_wp2
    go_ret
    exact ⟨rfl, HG3.out⟩
  | true =>
    obtain ⟨hfine, hwi, hn100⟩ := few_fine HX.out hfx
    have hit := few_items hfx hr
    obtain ⟨k1, k2, k3, k4, k5, k6, k7⟩ := form_right hr hfine
    obtain ⟨F, hF⟩ : ∃ F, formA xs = F := ⟨_, rfl⟩
    rw [hF] at k1 k2 k3 k4 k5 k6 k7 hrl hcp
    have hr100 : r ≤ 100 := by rw [← hrl]; have := HX.out.1; omega
    have hrp : 0 < r := by rw [← hrl]; exact List.length_pos_iff.2 k7
    have hd16 : (ws F).d ≤ 16 := ws_deep F
    have HRL := Lib.hid hrl
    have HFR := Lib.hid k1
    have HFF := Lib.hid k5
    have HFO := Lib.hid k6
    have HFI : Hid ((ws F).i ≤ 2000) := Lib.hid (by omega)
    have HG3 := Lib.hid (HG2.out.trans hg3)
    have HNF := Lib.hid hcp.nodes
    have HNB := Lib.hid (nest_one k1 (by omega))
    have HBOX := Lib.hid (fun hd => box_form k1 k5 k6 hd (by omega))
    have HKL := Lib.hid (kids_lit1 w3 (some ⟨g, 0, none⟩) r r F hcp.nodes hrl (Nat.le_refl _))
    have HFK : Hid (FitK [F]) := Lib.hid (fun q hq => by rw [List.mem_singleton.1 hq]; exact ⟨k5.1, k5.2.1⟩)
    have HDP := Lib.hid (fun W h => depth_any (some ⟨g, 0, none⟩) r r F W hrl (by omega) k5.2.1 h)
    clear hg3 hcp hrl hF k1 k2 k3 k4 k5 k6 k7 hr hgg hfx hfine hwi hit HX
    obtain ⟨d, hd⟩ : ∃ d, (ws F).d = d := ⟨_, rfl⟩
    rw [hd] at hd16 HNB HBOX HDP
    clear hd
    by_cases hlt : d < 16
    rotate_left
    · obtain rfl : d = 16 := by omega
      have HB' : Hid (nestB [] [F] = false) := Lib.hid (by rw [HNB.out]; rfl)
      clear HNB HBOX hlt
      go_wp2_with fail
      refine (nest_no HB'.out none 0 0 _ 1 1 _ rfl (by decide) Nums.none_ rfl (by decide) HFK.out (by rw [flat_one, HRL.out]; omega) HKL.out).mono ?_
      rintro e w5 ⟨rfl, hg5⟩
      have HG5 := Lib.hid (HG3.out.trans ((grow_new _ _).trans hg5))
      have HNF5 := Lib.hid (HNF.out.grow ((grow_new _ _).trans hg5))
      clear hg5 HG3 HNF
      go_wp2_with fail
      refine (HDP.out _ HNF5.out).mono ?_
      rintro e w6 ⟨rfl, hg6⟩
      go_wp2
      go_ret
      exact ⟨rfl, HG5.out.trans hg6⟩
    · have HB' : Hid (nestB [] [F] = true) := Lib.hid (by rw [HNB.out]; exact decide_eq_true hlt)
      have HFL := Lib.hid (flat_one F)
      obtain ⟨h, l, hFl, hrc, hic, hyes, hno⟩ := HBOX.out hlt
      have HFC := Lib.hid (fine_box HFF.out (by rw [HRL.out]; omega))
      have HRC := Lib.hid hrc
      have HIC := Lib.hid hic
      have HYES := Lib.hid hyes
      have HNO := Lib.hid hno
      have HFE := Lib.hid hFl
      clear HNB HBOX hFl hrc hic hyes hno
      go_wp2_with fail
      refine (nest_yes HB'.out (N := r + 1) (by rw [HFL.out, HRL.out]; omega) none 0 0 _ 1 1 _ rfl (by decide) Nums.none_ rfl (by decide) HFK.out (by omega) HKL.out).mono ?_
      rintro e w5 ⟨g5, -, rfl, hg5, hcp⟩
      rw [HFL.out] at hcp
      have HG5 := Lib.hid (HG3.out.trans ((grow_new _ _).trans hg5))
      have HNF5 := Lib.hid (HNF.out.grow ((grow_new _ _).trans hg5))
      have HNC5 := Lib.hid hcp.nodes
      have HLC : Hid ((nest5 [] :: F).length = r + 1) := Lib.hid (by rw [List.length_cons, HRL.out])
      clear hg5 hcp HG3 HNF HKL HFK HB'
      go_wp2_with fail
      refine (make_any (some ⟨g5, 0, none⟩) (r + 1) (r + 1) (nest5 [] :: F) w5 HLC.out (Nat.le_refl _) HFC.out (by have := HIC.out; omega) HNC5.out).mono ?_
      rintro e w6 ⟨hg6, ⟨hr2, _⟩ | ⟨hr2, g6, r6, hgg6, rfl, hrl6, hcp6⟩⟩
      · rw [HRC.out] at hr2; cases hr2
      have HG6 := Lib.hid (HG5.out.trans hg6)
      have HNF6 := Lib.hid (HNF5.out.grow hg6)
      have HNC6 := Lib.hid (HNC5.out.grow hg6)
      have HND6 := Lib.hid hcp6.nodes
      have HRL6 := Lib.hid hrl6
      clear hg6 hr2 hgg6 hrl6 hcp6 HG5 HNF5 HNC5
      have hr0 : (((r : Nat) : Int) == 0) = false := by simp; omega
      obtain ⟨b0, o0, e0, hb0, hat⟩ := HNF6.out (by rw [HRL.out]; omega)
      cases e0
      obtain ⟨A1, c1, A2, c2, A3, c3, p0, p1, p2, p3, hnd⟩ := hat 0 (by rw [HRL.out]; omega)
      rw [HFE.out] at p0 p1
      rw [Nat.zero_mul, Nat.zero_add] at p0 p1
      rw [show (h :: l).getD 0 nd0 = h from rfl] at p0 p1
      have P0 := Lib.hid p0
      have P1 := Lib.hid p1
      clear hat hnd p0 p1 p2 p3 hb0
      have p0 := P0.out
      have p1 := P1.out
      obtain ⟨sl, hsl⟩ : ∃ sl, h.shp.length = sl := ⟨_, rfl⟩
      rw [hsl] at p1
      obtain ⟨kd, hkd⟩ : ∃ kd, h.kind = kd := ⟨_, rfl⟩
      rw [hkd] at p0
      by_cases hc : sl = 0 ∧ kd ≠ 5
      · have HE := Lib.hid (HYES.out ⟨List.eq_nil_of_length_eq_zero (by rw [hsl]; exact hc.1), by rw [hkd]; exact hc.2⟩)
        obtain ⟨rfl, hk5⟩ := hc
        have hk5' : (kd != 5) = true := by simpa using hk5
        rw [HE.out] at HND6 HRL6
        have HRR : Hid (r6 = r) := Lib.hid (by rw [← HRL6.out, HRL.out])
        clear HYES HNO hk5 hsl hkd P0 P1
        go_wp2_with fail
        refine (rsames (xs := F) (ys := F) (β := true) (decide_eq_true rfl) HFF.out HFF.out (some ⟨g6, 0, none⟩) (some ⟨g, 0, none⟩) r6 r r6 r w6 HRL6.out HRL.out HND6.out HNF6.out).mono ?_
        rintro e w7 ⟨rfl, hg7⟩
        go_wp2
        go_ret
        exact ⟨rfl, HG6.out.trans hg7⟩
      · have HE := Lib.hid (HNO.out (fun hh => hc ⟨by rw [← hsl, hh.1]; rfl, by rw [← hkd]; exact hh.2⟩))
        rw [HE.out] at HND6 HRL6
        clear HYES HNO hsl hkd P0 P1
        by_cases hs0 : sl = 0
        · have hk5 : kd = 5 := Classical.byContradiction fun h => hc ⟨hs0, h⟩
          subst hs0 hk5
          clear hc
          go_wp2_with fail
          refine (rsames (xs := nest5 [] :: F) (ys := nest5 [] :: F) (β := true) (decide_eq_true rfl) HFC.out HFC.out (some ⟨g6, 0, none⟩) (some ⟨g5, 0, none⟩) r6 (r + 1) r6 (r + 1) w6 HRL6.out HLC.out HND6.out HNC6.out).mono ?_
          rintro e w7 ⟨rfl, hg7⟩
          go_wp2
          go_ret
          exact ⟨rfl, HG6.out.trans hg7⟩
        · have hs0' : (((sl : Nat) : Int) == 0) = false := by simp; omega
          clear hc
          go_wp2_with fail
          refine (rsames (xs := nest5 [] :: F) (ys := nest5 [] :: F) (β := true) (decide_eq_true rfl) HFC.out HFC.out (some ⟨g6, 0, none⟩) (some ⟨g5, 0, none⟩) r6 (r + 1) r6 (r + 1) w6 HRL6.out HLC.out HND6.out HNC6.out).mono ?_
          rintro e w7 ⟨rfl, hg7⟩
          go_wp2
          go_ret
          exact ⟨rfl, HG6.out.trans hg7⟩
end Go.Proofs.Ytcljpcbgokgcdaa
