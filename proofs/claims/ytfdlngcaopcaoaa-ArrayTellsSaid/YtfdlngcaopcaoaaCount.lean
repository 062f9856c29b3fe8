/-
  What shape.Count comes to, called with any numbers: the count, and whether the shape is right.
-/
import Derived.Test.YtfdlngcaopcaoaaCounts
namespace Go.Proofs.Ytfdlngcaopcaoaa
open Go.RowKit Go.Lib
set_option linter.unusedSimpArgs false
set_option linter.unusedVariables false

theorem right_long {xs : List Int} (h : 16 < xs.length) : rightB xs = false := by
  have : ¬ xs.length ≤ 16 := by omega
  simp [rightB, this]
theorem right_out {xs : List Int} (h : xs.all okI = false) : rightB xs = false := by simp [rightB, h]
theorem cnt_no {xs : List Int} (h : rightB xs = false) : cnt xs = 0 := by simp [cnt, h]
theorem cnt_yes {xs : List Int} (h : rightB xs = true) : cnt xs = prodN (toN xs) := by simp [cnt, h]
theorem zero_of_any {xs : List Int} (h : (xs.all fun x => !(0 == x)) = false) : prodN (toN xs) = 0 := by
  refine prod_zero ?_
  rw [List.all_eq_false] at h
  obtain ⟨x, hx, h0⟩ := h
  have h1 : ((0 : Int) == x) = true := by simpa using h0
  have : x = 0 := (beq_iff_eq.1 h1).symm
  subst this
  exact List.mem_map.2 ⟨0, hx, rfl⟩
theorem right_zero {xs : List Int} (h16 : xs.length ≤ 16) (ha : xs.all okI = true) (h : prodN (toN xs) = 0) : rightB xs = true ∧ cnt xs = 0 := by
  have : rightB xs = true := right_iff.2 ⟨h16, ha, by omega⟩
  exact ⟨this, by rw [cnt_yes this, h]⟩
/-- a number of a shape whose numbers are all right, none of them 0 -/
theorem at_ok {xs : List Int} {k : Nat} (h : k < xs.length) (ha : xs.all okI = true) : ∃ m : Nat, xs.getD k 0 = (m : Nat) ∧ m ≤ 1048576 := by
  have e : xs.getD k 0 = xs[k] := by simp [List.getD, h]
  have := List.all_eq_true.1 ha xs[k] (List.getElem_mem h)
  simp only [okI, Bool.and_eq_true, decide_eq_true_eq] at this
  exact ⟨xs[k].toNat, by rw [e]; omega, by omega⟩
theorem prod_drop {xs : List Int} {k m : Nat} (h : k < xs.length) (e : xs.getD k 0 = (m : Nat)) : prodN (toN (xs.drop k)) = m * prodN (toN (xs.drop (k + 1))) := by
  rw [drop_at 0 h, e]
  simp [toN, prodN]
theorem pos_drop {xs : List Int} (h : prodN (toN xs) ≠ 0) (k : Nat) : 0 < prodN (toN (xs.drop k)) := by
  refine prod_pos fun x hx => pos_of_prod h x ?_
  simp only [toN, List.mem_map] at hx ⊢
  obtain ⟨y, hy, rfl⟩ := hx
  exact ⟨y, List.mem_of_mem_drop hy, rfl⟩
theorem pos_of_all {xs : List Int} (ha : xs.all okI = true) (h : (xs.all fun x => !(0 == x)) = true) : prodN (toN xs) ≠ 0 := by
  have : 0 < prodN (toN xs) := prod_pos fun x hx => by
    obtain ⟨y, hy, rfl⟩ := List.mem_map.1 hx
    have h1 := List.all_eq_true.1 ha y hy
    have h2 := List.all_eq_true.1 h y hy
    simp only [okI, Bool.and_eq_true, decide_eq_true_eq] at h1
    simp at h2
    omega
  omega

set_option maxRecDepth 10000 in
set_option maxHeartbeats 1600000 in
theorem count_any (A : Option Addr) (n c : Nat) (xs : List Int) (w : World) (hn : xs.length = n) (hm : n ≤ 9223372036854775807) (hr : Nums .i64 w w.heap.size A xs) :
    Calls Try.prog 25 #[.slice A n c] w (Gives (.tuple #[.int .i64 (cnt xs : Nat), .bool (rightB xs)]) w) := by
  have HF := Lib.hid (containsf_any A n c xs w hn hm hr)
  have HZ := Lib.hid (contains0_any A n c xs w hn hm hr)
  have HR := Lib.hid hr
  have HN := Lib.hid hn
  clear hr hn
  by_cases h16 : 16 < n
  · have h16i : (16 : Int) < ((n : Nat) : Int) := by omega
    have HB := Lib.hid (right_long (xs := xs) (by rw [HN.out]; exact h16))
    have HC := Lib.hid (cnt_no HB.out)
    rw [HB.out, HC.out]
    go_enter Try.func25, Try.ntmps25
    go_wp2
    go_ret2
    exact ⟨rfl, rfl⟩
  have h16i : ¬ (16 : Int) < ((n : Nat) : Int) := by omega
  cases hall : xs.all okI with
  | false =>
    have HB := Lib.hid (right_out hall)
    have HC := Lib.hid (cnt_no HB.out)
    rw [HB.out, HC.out]
    rw [hall] at HF
    clear hall
    go_enter Try.func25, Try.ntmps25
    go_wp2_with fail
    refine (HF.out).mono ?_
    rintro e w2 ⟨rfl, rfl⟩
    go_wp2
    go_ret2
    exact ⟨rfl, rfl⟩
  | true =>
    rw [hall] at HF
    have HAL := Lib.hid hall
    clear hall
    cases hz : xs.all fun x => !(0 == x) with
    | false =>
      obtain ⟨hB, hC⟩ := right_zero (xs := xs) (by rw [HN.out]; omega) HAL.out (zero_of_any hz)
      rw [hB, hC]
      rw [hz] at HZ
      clear hz hB hC
      go_enter Try.func25, Try.ntmps25
      go_wp2_with fail
      refine (HF.out).mono ?_
      rintro e w2 ⟨rfl, rfl⟩
      go_wp2_with fail
      refine (HZ.out).mono ?_
      rintro e w3 ⟨rfl, rfl⟩
      go_wp2
      go_ret2
      exact ⟨rfl, rfl⟩
    | true =>
      rw [hz] at HZ
      have HP := Lib.hid (pos_of_all HAL.out hz)
      clear hz
      go_enter Try.func25, Try.ntmps25
      go_wp2_with fail
      refine (HF.out).mono ?_
      rintro e w2 ⟨rfl, rfl⟩
      go_wp2_with fail
      refine (HZ.out).mono ?_
      rintro e w3 ⟨rfl, rfl⟩
      clear HF HZ
      go_wp2
      go_loopg [5, 20] n (fun g s5 s20 wr => ∃ k q : Nat, k ≤ n ∧ g = n - k ∧ s5 = .int .i64 q ∧ s20 = .int .i64 k ∧ 1 ≤ q ∧ q ≤ 1048576 ∧ Hid (prodN (toN xs) = q * prodN (toN (xs.drop k))) ∧ w3 = wr)
      case atStart => exact ⟨0, 1, Nat.zero_le _, rfl, rfl, rfl, Nat.le_refl _, by omega, Lib.hid (by simp), rfl⟩
      case round =>
        obtain ⟨k, q, hk, rfl, rfl, rfl, hq1, hq, HQ, rfl⟩ := hrel
        by_cases hlt : k < n
        · have hkl : k < xs.length := by rw [HN.out]; exact hlt
          obtain ⟨b, off, rfl, hb, hcl⟩ := HR.out (by omega)
          have hc := hcl k hkl
          obtain ⟨m, hm', hmb⟩ := at_ok hkl HAL.out
          have HD := Lib.hid (prod_drop hkl hm')
          rw [hm'] at hc
          clear hcl hkl hm'
          have hqm : q * m ≤ 1048576 * 1048576 := Nat.mul_le_mul hq hmb
          have hpos := pos_drop HP.out (k + 1)
          have HPM : Hid (prodN (toN xs) = q * m * prodN (toN (xs.drop (k + 1)))) := Lib.hid (by rw [HQ.out, HD.out, Nat.mul_assoc])
          have HPN : Hid (0 < q * m) := Lib.hid (by
            rcases Nat.eq_zero_or_pos (q * m) with h0 | h0
            · exact absurd (by rw [HPM.out, h0, Nat.zero_mul]) HP.out
            · exact h0)
          have HLE : Hid (q * m ≤ prodN (toN xs)) := Lib.hid (by rw [HPM.out]; exact Nat.le_mul_of_pos_right _ hpos)
          have hmul : ((q : Nat) : Int) * ((m : Nat) : Int) = ((q * m : Nat) : Int) := by simp
          obtain ⟨p, hp⟩ : ∃ p, q * m = p := ⟨_, rfl⟩
          rw [hp] at hmul hqm HPM HPN HLE
          have hwr : IntKind.i64.wrap (((q : Nat) : Int) * ((m : Nat) : Int)) = ((p : Nat) : Int) := by rw [hmul, IntKind.wrap_i64]; omega
          clear hpos HD hp hmul
          by_cases hgt : 1048576 < p
          · have hgti : (1048576 : Int) < ((p : Nat) : Int) := by omega
            have HB : Hid (rightB xs = false) := Lib.hid (by
              cases hb : rightB xs with
              | false => rfl
              | true => have := (right_iff.1 hb).2.2; have := HLE.out; omega)
            have HC := Lib.hid (cnt_no HB.out)
            go_wp2
            go_ret2
            exact ⟨by rw [HB.out, HC.out]; rfl, rfl⟩
          · have hgti : ¬ (1048576 : Int) < ((p : Nat) : Int) := by omega
            go_wp2
            go_roundg (n - (k + 1))
            case rel => exact ⟨k + 1, p, by omega, rfl, rfl, by go_num, HPN.out, by omega, HPM, rfl⟩
            case measure => omega
        · obtain rfl : n = k := by omega
          have HE : Hid (prodN (toN xs) = q) := Lib.hid (by rw [HQ.out, List.drop_of_length_le (by rw [HN.out]; exact Nat.le_refl _)]; simp [toN, prodN])
          have HB : Hid (rightB xs = true) := Lib.hid (right_iff.2 ⟨by rw [HN.out]; omega, HAL.out, by rw [HE.out]; exact hq⟩)
          have HC : Hid (cnt xs = q) := Lib.hid ((cnt_yes HB.out).trans HE.out)
          go_wp2
          go_ret2
          exact ⟨by rw [HB.out, HC.out]; rfl, rfl⟩
end Go.Proofs.Ytfdlngcaopcaoaa
