/-
  What shape.Place comes to, called with any numbers.
-/
import Derived.Test.YtbediaeaodjnmaaCount
import Derived.BigQuiet
namespace Go.Proofs.Ytbediaeaodjnmaa
open Go.RowKit Go.Lib
set_option linter.unusedSimpArgs false
set_option linter.unusedVariables false

theorem drewN_grow (w : World) (m : Nat) : Grow w (w.drewN m) := (Grow.refl w).drewN m
theorem in_drop {xs ys : List Int} {k : Nat} (h : k < xs.length) (h' : k < ys.length) :
    inB (xs.drop k) (ys.drop k) = ((decide (0 ≤ ys.getD k 0) && decide (ys.getD k 0 < xs.getD k 0)) && inB (xs.drop (k + 1)) (ys.drop (k + 1))) := by
  rw [drop_at 0 h, drop_at 0 h']
  rfl
theorem hor_drop {xs ys : List Int} {k m q : Nat} (p : Nat) (h : k < xs.length) (h' : k < ys.length) (e : xs.getD k 0 = (m : Nat)) (e' : ys.getD k 0 = (q : Nat)) :
    hor p (toN (xs.drop k)) (toN (ys.drop k)) = hor (p * m + q) (toN (xs.drop (k + 1))) (toN (ys.drop (k + 1))) := by
  rw [drop_at 0 h, drop_at 0 h', e, e']
  simp [toN, hor]
theorem room_step {p m q P T : Nat} (h : (p + 1) * (m * P) ≤ T) (hq : q < m) : (p * m + q + 1) * P ≤ T := by
  refine Nat.le_trans ?_ h
  rw [← Nat.mul_assoc]
  refine Nat.mul_le_mul_right _ ?_
  rw [Nat.add_mul, Nat.one_mul]
  omega
theorem plc_no {xs ys : List Int} (h : plcB xs ys = false) : plc xs ys = 0 := by simp [plc, h]
theorem plcB_zero {xs ys : List Int} (h : cnt xs = 0) : plcB xs ys = false := by
  cases hb : rightB xs with
  | false => simp [plcB, hb]
  | true => rw [cnt_yes hb] at h; simp [plcB, in_zero (ys := ys) h]
theorem plcB_out {xs ys : List Int} (h : inB xs ys = false) : plcB xs ys = false := by simp [plcB, h]
theorem right_of_cnt {xs : List Int} (h : cnt xs ≠ 0) : rightB xs = true ∧ prodN (toN xs) ≠ 0 ∧ prodN (toN xs) ≤ 1048576 ∧ cnt xs = prodN (toN xs) := by
  cases hb : rightB xs with
  | false => exact absurd (cnt_no hb) h
  | true => exact ⟨rfl, by rw [← cnt_yes hb]; exact h, (right_iff.1 hb).2.2, cnt_yes hb⟩

set_option maxRecDepth 10000 in
set_option maxHeartbeats 1600000 in
theorem outside_any (b2 b3 ba oa bx ox n c n' c' k : Nat) (a x : Int) (w : World) (hk : k < n) (hk' : k < n') (hm : n ≤ 9223372036854775807) (hm' : n' ≤ 9223372036854775807)
    (h3 : w.cell? ⟨b3, 0, none⟩ = some (.slice (some ⟨ba, oa, none⟩) n' c')) (h2 : w.cell? ⟨b2, 0, none⟩ = some (.slice (some ⟨bx, ox, none⟩) n c))
    (ha : w.cell? ⟨ba, oa + k, none⟩ = some (.int .i64 a)) (hx : w.cell? ⟨bx, ox + k, none⟩ = some (.int .i64 x)) :
    Calls Try.prog 19 #[.int .i64 (k : Nat), .pointer (some ⟨b3, 0, none⟩), .pointer (some ⟨b2, 0, none⟩)] w (fun e w' => e = .returned (.bool (!(decide (0 ≤ a) && decide (a < x)))) ∧ Grow w w') := by
  by_cases h0 : a < 0
  · have hd : decide (a < 0) = true := decide_eq_true h0
    have HE : Hid ((!(decide (0 ≤ a) && decide (a < x))) = true) := Lib.hid (by simp; omega)
    rw [HE.out]
    go_enter Try.func19, Try.ntmps19
    go_wp2
    go_quiet (fail)
    go_wp2
    go_ret
    exact ⟨rfl, drewN_grow _ _⟩
  · have hd : decide (a < 0) = false := decide_eq_false h0
    by_cases h1 : x ≤ a
    · have HE : Hid ((!(decide (0 ≤ a) && decide (a < x))) = true) := Lib.hid (by simp; omega)
      rw [HE.out]
      go_enter Try.func19, Try.ntmps19
      go_wp2
      go_quiet (fail)
      go_wp2
      go_ret
      exact ⟨rfl, drewN_grow _ _⟩
    · have HE : Hid ((!(decide (0 ≤ a) && decide (a < x))) = false) := Lib.hid (by
        have h3 : 0 ≤ a := by omega
        have h4 : a < x := by omega
        simp [h3, h4])
      rw [HE.out]
      go_enter Try.func19, Try.ntmps19
      go_wp2
      go_quiet (fail)
      go_wp2
      go_ret
      have hd1 : decide (x ≤ a) = false := decide_eq_false (by omega)
      exact ⟨by rw [hd1]; rfl, drewN_grow _ _⟩

set_option maxRecDepth 10000 in
set_option maxHeartbeats 3200000 in
theorem place_any (A A' : Option Addr) (n c n' c' : Nat) (xs ys : List Int) (w : World) (hn : xs.length = n) (hm : n ≤ 9223372036854775807) (hn' : ys.length = n') (hm' : n' ≤ 9223372036854775807) (hr : Nums .i64 w w.heap.size A xs) (hr' : Nums .i64 w w.heap.size A' ys) :
    Calls Try.prog 11 #[.slice A n c, .slice A' n' c'] w (fun e w' => e = .returned (.tuple #[.int .i64 (plc xs ys : Nat), .bool (plcB xs ys)]) ∧ Grow w w') := by
  have HR := Lib.hid hr
  have HR' := Lib.hid hr'
  have HN := Lib.hid hn
  have HN' := Lib.hid hn'
  clear hr hn hr' hn'
  have hmf : ∀ (fn : Fn) (first cap : Array Value) (w : World), (Instr.makeFunc fn first cap).run Try.prog w = .ok (.func fn first cap) w := fun _ _ _ _ => rfl
  obtain ⟨C, hC⟩ : ∃ C, cnt xs = C := ⟨_, rfl⟩
  have HC := Lib.hid hC
  have HCO := Lib.hid (fun W h => count_any A n c xs W HN.out hm h)
  rw [hC] at HCO
  clear hC
  go_enter Try.func11, Try.ntmps11
  go_wp2_with fail
  refine (HCO.out _ (HR.out.grow ((grow_new _ _).trans (grow_new _ _)))).mono ?_
  rintro e w2 ⟨rfl, hw2⟩
  have h2 : w2.cell? ⟨w.heap.size, 0, none⟩ = some (.slice A n c) := by
    rw [hw2, World.cell?_alloc_past]
    · rw [World.cell?_alloc_new]; rfl
    · simp
  have h3 : w2.cell? ⟨w.heap.size + 1, 0, none⟩ = some (.slice A' n' c') := by
    rw [hw2]
    have e : (w.alloc (.cells #[.slice A n c] 22)).heap.size = w.heap.size + 1 := by simp
    rw [← e, World.cell?_alloc_new]; rfl
  have HG := Lib.hid (show Grow w w2 by rw [hw2]; exact (grow_new _ _).trans (grow_new _ _))
  have HS2 := Lib.hid (show w2.heap.size = w.heap.size + 2 by rw [hw2]; simp)
  clear hw2 HCO
  have hCb : ¬ ((C : Nat) : Int) < 0 := by omega
  by_cases h0 : C = 0
  · subst h0
    have HB := Lib.hid (plcB_zero (ys := ys) HC.out)
    have HP := Lib.hid (plc_no HB.out)
    go_wp2
    go_ret2
    exact ⟨by rw [HB.out, HP.out]; rfl, HG.out⟩
  have hC0 : (((C : Nat) : Int) == 0) = false := by rw [beq_eq_false_iff_ne]; omega
  by_cases hnn : n' = n
  · subst hnn
    have hne : (((n' : Nat) : Int) != ((n' : Nat) : Int)) = false := by simp
    obtain ⟨hB, hP0, hPB, hCP⟩ := right_of_cnt (xs := xs) (by rw [HC.out]; exact h0)
    have HB := Lib.hid hB
    have HP0 := Lib.hid hP0
    have HPB := Lib.hid hPB
    have HAL := Lib.hid (right_iff.1 hB).2.1
    clear hB hP0 hPB hCP h0
    go_wp2
    go_loopg [9, 29] n' (fun g s9 s29 wr => ∃ k p : Nat, k ≤ n' ∧ g = n' - k ∧ s9 = .int .i64 p ∧ s29 = .int .i64 k ∧ Hid (inB (xs.drop k) (ys.drop k) = inB xs ys) ∧ Hid (hor p (toN (xs.drop k)) (toN (ys.drop k)) = hor 0 (toN xs) (toN ys)) ∧ Hid ((p + 1) * prodN (toN (xs.drop k)) ≤ prodN (toN xs)) ∧ Hid (Grow w2 wr))
    case atStart => exact ⟨0, 0, Nat.zero_le _, rfl, rfl, rfl, Lib.hid rfl, Lib.hid rfl, Lib.hid (by simp), Lib.hid (Grow.refl _)⟩
    case round =>
      obtain ⟨k, p, hk, rfl, rfl, rfl, HI, HH, HQ, HGW⟩ := hrel
      by_cases hlt : k < n'
      · have hkl : k < xs.length := by rw [HN.out]; exact hlt
        have hkl' : k < ys.length := by rw [HN'.out]; exact hlt
        obtain ⟨bx, ox, rfl, hbx, hcx⟩ := (HR.out.grow (HG.out.trans HGW.out)) (by omega)
        obtain ⟨ba, oa, rfl, hba, hca⟩ := (HR'.out.grow (HG.out.trans HGW.out)) (by omega)
        have hx := hcx k hkl
        have ha := hca k hkl'
        obtain ⟨m, hm1, hmb⟩ := at_ok hkl HAL.out
        have HID := Lib.hid (in_drop hkl hkl')
        have HHD := Lib.hid (fun q e => hor_drop (xs := xs) (ys := ys) (q := q) p hkl hkl' hm1 e)
        have HPD := Lib.hid (prod_drop hkl hm1)
        rw [hm1] at hx HID
        clear hcx hca hkl hkl' hm1
        generalize ys.getD k 0 = a at ha HID HHD
        have h2' : wr.cell? ⟨w.heap.size, 0, none⟩ = some (.slice (some ⟨bx, ox, none⟩) n' c) := (HGW.out.cell (by rw [HS2.out]; simp)).trans h2
        have h3' : wr.cell? ⟨w.heap.size + 1, 0, none⟩ = some (.slice (some ⟨ba, oa, none⟩) n' c') := (HGW.out.cell (by rw [HS2.out]; simp)).trans h3
        have HO := Lib.hid (outside_any w.heap.size (w.heap.size + 1) ba oa bx ox n' c n' c' k a ((m : Nat) : Int) wr hlt hlt hm hm h3' h2' ha hx)
        have hpos := pos_drop HP0.out (k + 1)
        have hroom := HQ.out
        rw [HPD.out] at hroom
        cases hin : (decide (0 ≤ a) && decide (a < ((m : Nat) : Int))) with
        | false =>
          rw [hin] at HO HID
          have HF := Lib.hid (plcB_out (xs := xs) (ys := ys) (by rw [← HI.out, HID.out]; rfl))
          have HP := Lib.hid (plc_no HF.out)
          clear hin hroom hpos h2' h3'
          go_wp2_with (go_at_call 19; refine (HO.out).mono ?_; rintro e w3 ⟨rfl, hg⟩)
          have HG3 := Lib.hid (HG.out.trans (HGW.out.trans hg))
          clear hg
          go_ret2
          exact ⟨by rw [HF.out, HP.out]; rfl, HG3.out⟩
        | true =>
          rw [hin] at HO HID
          have hi2 := hin
          simp only [Bool.and_eq_true, decide_eq_true_eq] at hi2
          obtain ⟨q, rfl⟩ : ∃ q : Nat, a = (q : Nat) := ⟨a.toNat, by omega⟩
          have hqm : q < m := by omega
          have HR1 := Lib.hid (room_step hroom hqm)
          have hpm : p * m + q + 1 ≤ 1048576 := Nat.le_trans (Nat.le_trans (Nat.le_mul_of_pos_right _ hpos) HR1.out) HPB.out
          have HH1 := Lib.hid ((HHD.out q rfl).symm.trans HH.out)
          have HI1 : Hid (inB (xs.drop (k + 1)) (ys.drop (k + 1)) = inB xs ys) := Lib.hid (by rw [← HI.out, HID.out]; rfl)
          have hmul : ((p : Nat) : Int) * ((m : Nat) : Int) = ((p * m : Nat) : Int) := by simp
          obtain ⟨r, hr⟩ : ∃ r, p * m = r := ⟨_, rfl⟩
          rw [hr] at hmul hpm HR1 HH1
          have hw1 : IntKind.i64.wrap (((p : Nat) : Int) * ((m : Nat) : Int)) = ((r : Nat) : Int) := by rw [hmul, IntKind.wrap_i64]; omega
          have hw2 : IntKind.i64.wrap (((r : Nat) : Int) + ((q : Nat) : Int)) = ((r + q : Nat) : Int) := by rw [IntKind.wrap_i64]; omega
          clear hin hi2 hroom hpos hmul hr HHD HPD
          go_wp2_with (go_at_call 19; refine (HO.out).mono ?_; rintro e w3 ⟨rfl, hg⟩; have HG3 := Lib.hid (HGW.out.trans hg); have h3w := (hg.cell (by simp; exact Nat.lt_of_lt_of_le (by rw [HS2.out]; omega) HGW.out.size)).trans h3'; have haw := (hg.cell (by simpa using hba)).trans ha; clear hg)
          go_roundg (n' - (k + 1))
          case rel => exact ⟨k + 1, r + q, by omega, rfl, by first | rfl | go_num, by go_num, HI1, HH1, HR1, HG3⟩
          case measure => omega
      · obtain rfl : n' = k := by omega
        have hd1 : xs.drop n' = [] := List.drop_of_length_le (by rw [HN.out]; exact Nat.le_refl _)
        have hd2 : ys.drop n' = [] := List.drop_of_length_le (by rw [HN'.out]; exact Nat.le_refl _)
        have HI1 := Lib.hid HI.out.symm
        have HH1 := Lib.hid HH.out.symm
        rw [hd1, hd2] at HI1 HH1
        have HF : Hid (plcB xs ys = true) := Lib.hid (by simp [plcB, HB.out, HI1.out, inB])
        have HP : Hid (plc xs ys = p) := Lib.hid (by unfold plc; rw [if_pos HF.out, HH1.out]; rfl)
        clear hd1 hd2
        go_wp2
        go_ret2
        exact ⟨by rw [HF.out, HP.out]; rfl, HG.out.trans HGW.out⟩
  · have hne : (((n' : Nat) : Int) != ((n : Nat) : Int)) = true := by simp; omega
    have HB := Lib.hid (plcB_out (xs := xs) (ys := ys) (in_len (by rw [HN.out, HN'.out]; exact hnn)))
    have HP := Lib.hid (plc_no HB.out)
    go_wp2
    go_ret2
    exact ⟨by rw [HB.out, HP.out]; rfl, HG.out⟩
end Go.Proofs.Ytbediaeaodjnmaa
