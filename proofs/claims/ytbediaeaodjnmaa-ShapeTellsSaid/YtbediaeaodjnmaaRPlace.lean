/-
  What the document's own Place comes to, called with any numbers.
-/
import Derived.Test.YtbediaeaodjnmaaRCount
import Derived.BigRegion
namespace Go.Proofs.Ytbediaeaodjnmaa
open Go.RowKit Go.Lib
set_option linter.unusedSimpArgs false
set_option linter.unusedVariables false

theorem in_at {xs ys : List Int} {k : Nat} {m : Nat} {a : Int} (h : (decide (0 ≤ a) && decide (a < ((m : Nat) : Int))) = true) : ∃ q : Nat, a = (q : Nat) ∧ q < m := by
  simp only [Bool.and_eq_true, decide_eq_true_eq] at h
  exact ⟨a.toNat, by omega, by omega⟩

set_option maxRecDepth 10000 in
set_option maxHeartbeats 3200000 in
theorem rplace_any (A A' : Option Addr) (n c n' c' : Nat) (xs ys : List Int) (w : World) (hn : xs.length = n) (hm : n ≤ 9223372036854775807) (hn' : ys.length = n') (hm' : n' ≤ 9223372036854775807) (hr : Nums .i64 w w.heap.size A xs) (hr' : Nums .i64 w w.heap.size A' ys) :
    Calls Try.prog 12 #[.slice A n c, .slice A' n' c'] w (fun e w' => e = .returned (.tuple #[.int .i64 (plc xs ys : Nat), .bool (plcB xs ys)]) ∧ Grow w w') := by
  have HR := Lib.hid hr
  have HR' := Lib.hid hr'
  have HN := Lib.hid hn
  have HN' := Lib.hid hn'
  have HCO := Lib.hid (rcount_any A n c xs w hn hm hr)
  clear hr hn hr' hn'
  cases hrb : rightB xs with
  | false =>
    have HB : Hid (plcB xs ys = false) := Lib.hid (by unfold plcB; rw [hrb]; rfl)
    have HP := Lib.hid (plc_no HB.out)
    rw [hrb] at HCO
    clear hrb
    go_enter Try.func12, Try.ntmps12
    go_wp2_with fail
    refine (HCO.out).mono ?_
    rintro e w2 ⟨rfl, rfl⟩
    go_wp2
    go_ret2
    exact ⟨by rw [HB.out, HP.out]; rfl, Grow.refl _⟩
  | true =>
  rw [hrb] at HCO
  by_cases hnn : n' = n
  · subst hnn
    have hne : (((n' : Nat) : Int) != ((n' : Nat) : Int)) = false := by simp
    have HRB := Lib.hid hrb
    have HPB := Lib.hid (right_iff.1 hrb).2.2
    have HAL := Lib.hid (right_iff.1 hrb).2.1
    clear hrb
    go_enter Try.func12, Try.ntmps12
    go_wp2_with fail
    refine (HCO.out).mono ?_
    rintro e w2 ⟨rfl, rfl⟩
    clear HCO
    go_wp2
    go_loopg [8, 9] n' (fun g s9 s29 wr => ∃ (k : Nat) (z : Int), k ≤ n' ∧ g = n' - k ∧ s9 = .int .i64 z ∧ s29 = .int .i64 k ∧ Hid (inB (xs.drop k) (ys.drop k) = inB xs ys) ∧ Hid (prodN (toN xs) ≠ 0 → ∃ p : Nat, z = (p : Nat) ∧ hor p (toN (xs.drop k)) (toN (ys.drop k)) = hor 0 (toN xs) (toN ys) ∧ (p + 1) * prodN (toN (xs.drop k)) ≤ prodN (toN xs)) ∧ Hid (Grow w2 wr))
    case atStart => exact ⟨0, 0, Nat.zero_le _, rfl, rfl, rfl, Lib.hid rfl, Lib.hid (fun _ => ⟨0, rfl, rfl, by simp⟩), Lib.hid (Grow.refl _)⟩
    case round =>
      obtain ⟨k, z, hk, rfl, rfl, rfl, HI, HH, HGW⟩ := hrel
      by_cases hlt : k < n'
      · have hkl : k < xs.length := by rw [HN.out]; exact hlt
        have hkl' : k < ys.length := by rw [HN'.out]; exact hlt
        obtain ⟨bx, ox, rfl, hbx, hcx⟩ := (HR.out.grow HGW.out) (by omega)
        obtain ⟨ba, oa, rfl, hba, hca⟩ := (HR'.out.grow HGW.out) (by omega)
        have hx := hcx k hkl
        have ha := hca k hkl'
        obtain ⟨m, hm1, hmb⟩ := at_ok hkl HAL.out
        have HID := Lib.hid (in_drop hkl hkl')
        have HHD := Lib.hid (fun p q e => hor_drop (xs := xs) (ys := ys) (q := q) p hkl hkl' hm1 e)
        have HPD := Lib.hid (prod_drop hkl hm1)
        rw [hm1] at hx HID
        clear hcx hca hkl hkl' hm1
        generalize ys.getD k 0 = a at ha HID HHD
        by_cases h0 : a < 0
        · have hd : decide (a < 0) = true := decide_eq_true h0
          have HF := Lib.hid (plcB_out (xs := xs) (ys := ys) (by rw [← HI.out, HID.out]; have : ¬ 0 ≤ a := (by omega); simp [this]))
          have HP := Lib.hid (plc_no HF.out)
          go_wp2
          go_quiet (fail)
          go_wp2
          go_ret2
          exact ⟨by rw [HF.out, HP.out]; rfl, HGW.out.drewN _⟩
        have hd : decide (a < 0) = false := decide_eq_false h0
        by_cases h1 : ((m : Nat) : Int) ≤ a
        · have hd1 : decide (((m : Nat) : Int) ≤ a) = true := decide_eq_true h1
          have HF := Lib.hid (plcB_out (xs := xs) (ys := ys) (by rw [← HI.out, HID.out]; have : ¬ a < ((m : Nat) : Int) := (by omega); simp [this]))
          have HP := Lib.hid (plc_no HF.out)
          go_wp2
          go_quiet (fail)
          go_wp2
          go_ret2
          exact ⟨by rw [HF.out, HP.out]; rfl, HGW.out.drewN _⟩
        have hd1 : decide (((m : Nat) : Int) ≤ a) = false := decide_eq_false h1
        obtain ⟨q, rfl⟩ : ∃ q : Nat, a = (q : Nat) := ⟨a.toNat, by omega⟩
        have hqm : q < m := by omega
        have HI1 : Hid (inB (xs.drop (k + 1)) (ys.drop (k + 1)) = inB xs ys) := Lib.hid (by
          have h3 : (0 : Int) ≤ ((q : Nat) : Int) := by omega
          have h4 : ((q : Nat) : Int) < ((m : Nat) : Int) := by omega
          rw [← HI.out, HID.out]
          simp only [h3, h4, decide_true, Bool.and_self, Bool.true_and])
        have HZ : Hid (prodN (toN xs) ≠ 0 → ∃ p : Nat, IntKind.i64.wrap (IntKind.i64.wrap (z * ((m : Nat) : Int)) + ((q : Nat) : Int)) = (p : Nat) ∧ hor p (toN (xs.drop (k + 1))) (toN (ys.drop (k + 1))) = hor 0 (toN xs) (toN ys) ∧ (p + 1) * prodN (toN (xs.drop (k + 1))) ≤ prodN (toN xs)) := Lib.hid (fun hne => by
          obtain ⟨p, rfl, e1, e2⟩ := HH.out hne
          rw [HPD.out] at e2
          have hr := room_step e2 hqm
          have hpos := pos_drop hne (k + 1)
          have hpm : p * m + q + 1 ≤ 1048576 := Nat.le_trans (Nat.le_trans (Nat.le_mul_of_pos_right _ hpos) hr) HPB.out
          refine ⟨p * m + q, ?_, (HHD.out p q rfl).symm.trans e1, hr⟩
          have hmul : ((p : Nat) : Int) * ((m : Nat) : Int) = ((p * m : Nat) : Int) := by simp
          rw [hmul]
          generalize p * m = r at hpm
          have hw1 : IntKind.i64.wrap ((r : Nat) : Int) = ((r : Nat) : Int) := by rw [IntKind.wrap_i64]; omega
          rw [hw1, IntKind.wrap_i64]
          omega)
        obtain ⟨y, hy⟩ : ∃ y, IntKind.i64.wrap (z * ((m : Nat) : Int)) = y := ⟨_, rfl⟩
        obtain ⟨z', hz'⟩ : ∃ z', IntKind.i64.wrap (y + ((q : Nat) : Int)) = z' := ⟨_, rfl⟩
        rw [hy, hz'] at HZ
        clear HHD HPD HID
        go_wp2
        go_quiet (fail)
        go_wp2
        go_quiet (fail)
        go_wp2
        go_roundg (n' - (k + 1))
        case rel => exact ⟨k + 1, z', by omega, rfl, rfl, by go_num, HI1, HZ, Lib.hid (HGW.out.drewN _)⟩
        case measure => omega
      · obtain rfl : n' = k := by omega
        have hd1 : xs.drop n' = [] := List.drop_of_length_le (by rw [HN.out]; exact Nat.le_refl _)
        have hd2 : ys.drop n' = [] := List.drop_of_length_le (by rw [HN'.out]; exact Nat.le_refl _)
        have HI1 := Lib.hid HI.out.symm
        rw [hd1, hd2] at HI1 HH
        have HF : Hid (plcB xs ys = true) := Lib.hid (by simp [plcB, HRB.out, HI1.out, inB])
        have hne : prodN (toN xs) ≠ 0 := fun h => by
          have := in_zero (ys := ys) h
          rw [HI1.out] at this
          cases this
        obtain ⟨p, rfl, hh, _⟩ := HH.out hne
        have HP : Hid (plc xs ys = p) := Lib.hid (by unfold plc; rw [if_pos HF.out, ← hh]; rfl)
        clear hd1 hd2 hh hne
        go_wp2
        go_ret2
        exact ⟨by rw [HF.out, HP.out]; rfl, HGW.out⟩
  · have hne : (((n' : Nat) : Int) != ((n : Nat) : Int)) = true := by simp; omega
    have HB := Lib.hid (plcB_out (xs := xs) (ys := ys) (in_len (by rw [HN.out, HN'.out]; exact hnn)))
    have HP := Lib.hid (plc_no HB.out)
    clear hrb
    go_enter Try.func12, Try.ntmps12
    go_wp2_with fail
    refine (HCO.out).mono ?_
    rintro e w2 ⟨rfl, rfl⟩
    go_wp2
    go_ret2
    exact ⟨by rw [HB.out, HP.out]; rfl, Grow.refl _⟩
end Go.Proofs.Ytbediaeaodjnmaa
