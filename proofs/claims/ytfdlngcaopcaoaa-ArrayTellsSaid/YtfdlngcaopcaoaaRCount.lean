/-
  What the document's own Count comes to, called with any numbers.
-/
import Derived.Test.YtfdlngcaopcaoaaCount
namespace Go.Proofs.Ytfdlngcaopcaoaa
open Go.RowKit Go.Lib
set_option linter.unusedSimpArgs false
set_option linter.unusedVariables false

def nz (x : Int) : Bool := !(0 == x)

set_option maxRecDepth 10000 in
set_option maxHeartbeats 3200000 in
theorem rcount_any (A : Option Addr) (n c : Nat) (xs : List Int) (w : World) (hn : xs.length = n) (hm : n ≤ 9223372036854775807) (hr : Nums .i64 w w.heap.size A xs) :
    Calls Try.prog 54 #[.slice A n c] w (Gives (.tuple #[.int .i64 (cnt xs : Nat), .bool (rightB xs)]) w) := by
  have HR := Lib.hid hr
  have HN := Lib.hid hn
  clear hr hn
  by_cases h16 : 16 < n
  · have h16i : (16 : Int) < ((n : Nat) : Int) := by omega
    have HB := Lib.hid (right_long (xs := xs) (by rw [HN.out]; exact h16))
    have HC := Lib.hid (cnt_no HB.out)
    rw [HB.out, HC.out]
    go_enter Try.func54, Try.ntmps54
    go_wp2
    go_ret2
    exact ⟨rfl, rfl⟩
  have h16i : ¬ (16 : Int) < ((n : Nat) : Int) := by omega
  go_enter Try.func54, Try.ntmps54
  go_wp2
  go_loopg [4, 5] n (fun g s4 s5 wr => ∃ k q : Nat, k ≤ n ∧ g = n - k ∧ s4 = .int .i64 q ∧ s5 = .int .i64 k ∧ Hid ((xs.drop k).all okI = xs.all okI) ∧ Hid ((q = 1 ∧ (xs.drop k).all nz = xs.all nz) ∨ (q = 0 ∧ xs.all nz = false)) ∧ w = wr)
  case atStart => exact ⟨0, 1, Nat.zero_le _, rfl, rfl, rfl, Lib.hid rfl, Lib.hid (.inl ⟨rfl, rfl⟩), rfl⟩
  case round =>
    obtain ⟨k, q, hk, rfl, rfl, rfl, HA, HZ, rfl⟩ := hrel
    by_cases hlt : k < n
    · have hkl : k < xs.length := by rw [HN.out]; exact hlt
      obtain ⟨b, off, rfl, hb, hcl⟩ := HR.out (by omega)
      have hc := hcl k hkl
      have HT := Lib.hid (fun h => all_drop (p := okI) hkl h)
      have HF := Lib.hid (fun h => all_fails (p := okI) hkl h)
      have HT2 := Lib.hid (fun h => all_drop (p := nz) hkl h)
      have HF2 := Lib.hid (fun h => all_fails (p := nz) hkl h)
      clear hcl hkl
      generalize xs.getD k 0 = x at hc HT HF HT2 HF2
      by_cases h0 : x < 0
      · have hd : decide (x < 0) = true := decide_eq_true h0
        have HB := Lib.hid (right_out (xs := xs) (by rw [← HA.out]; exact HF.out (by simp [okI]; omega)))
        have HC := Lib.hid (cnt_no HB.out)
        go_wp2
        go_ret2
        exact ⟨by rw [HB.out, HC.out]; rfl, rfl⟩
      have hd : decide (x < 0) = false := decide_eq_false h0
      by_cases h1 : 1048576 < x
      · have HB := Lib.hid (right_out (xs := xs) (by rw [← HA.out]; exact HF.out (by simp [okI]; omega)))
        have HC := Lib.hid (cnt_no HB.out)
        go_wp2
        go_ret2
        exact ⟨by rw [HB.out, HC.out]; rfl, rfl⟩
      have HA1 := Lib.hid ((HT.out (by simp [okI]; omega)).symm.trans HA.out)
      by_cases hx0 : x = 0
      · subst hx0
        have HZ1 : Hid (xs.all nz = false) := Lib.hid (by
          rcases HZ.out with ⟨_, h⟩ | ⟨_, h⟩
          · rw [← h]; exact HF2.out rfl
          · exact h)
        go_wp2
        go_roundg (n - (k + 1))
        case rel => exact ⟨k + 1, 0, by omega, rfl, rfl, by go_num, HA1, Lib.hid (.inr ⟨rfl, HZ1.out⟩), rfl⟩
        case measure => omega
      · have hxb : (x == 0) = false := beq_eq_false_iff_ne.2 hx0
        have HZ1 : Hid ((q = 1 ∧ (xs.drop (k + 1)).all nz = xs.all nz) ∨ (q = 0 ∧ xs.all nz = false)) := Lib.hid (by
          rcases HZ.out with ⟨hq, h⟩ | h
          · left
            refine ⟨hq, ?_⟩
            rw [← h]
            refine (HT2.out ?_).symm
            unfold nz
            have : ((0 : Int) == x) = false := beq_eq_false_iff_ne.2 (fun e => hx0 e.symm)
            rw [this]
            rfl
          · exact .inr h)
        go_wp2
        go_roundg (n - (k + 1))
        case rel => exact ⟨k + 1, q, by omega, rfl, rfl, by go_num, HA1, HZ1, rfl⟩
        case measure => omega
    · obtain rfl : n = k := by omega
      have hd1 : xs.drop n = [] := List.drop_of_length_le (by rw [HN.out]; exact Nat.le_refl _)
      have HAL : Hid (xs.all okI = true) := Lib.hid (by rw [← HA.out, hd1]; rfl)
      rcases HZ.out with ⟨rfl, hz⟩ | ⟨rfl, hz⟩
      · have HP := Lib.hid (pos_of_all HAL.out (show xs.all nz = true by rw [← hz, hd1]; rfl))
        clear hz hd1 HZ HA
        go_wp2
        go_loopg [4, 6] n (fun g s5 s20 wr => ∃ k q : Nat, k ≤ n ∧ g = n - k ∧ s5 = .int .i64 q ∧ s20 = .int .i64 k ∧ 1 ≤ q ∧ q ≤ 1048576 ∧ Hid (prodN (toN xs) = q * prodN (toN (xs.drop k))) ∧ w = wr)
        case atStart => exact ⟨0, 1, Nat.zero_le _, rfl, rfl, rfl, Nat.le_refl _, by omega, Lib.hid (by simp), rfl⟩
        case round =>
          obtain ⟨k, q, hk, rfl, rfl, rfl, hq1, hq, HQ, rfl⟩ := hrel
          by_cases hlt : k < n
          · have hkl : k < xs.length := by rw [HN.out]; exact hlt
            obtain ⟨b, off, rfl, hb, hcl⟩ := HR.out (by omega)
            have hc := hcl k hkl
            obtain ⟨m, hm', hmb⟩ := at_ok hkl HAL.out
            have HD := Lib.hid (prod_drop hkl hm')
            rw [hm'] at hc
            clear hcl hkl hm'
            have hqm : q * m ≤ 1048576 * 1048576 := Nat.mul_le_mul hq hmb
            have hpos := pos_drop HP.out (k + 1)
            have HPM : Hid (prodN (toN xs) = q * m * prodN (toN (xs.drop (k + 1)))) := Lib.hid (by rw [HQ.out, HD.out, Nat.mul_assoc])
            have HPN : Hid (0 < q * m) := Lib.hid (by
              rcases Nat.eq_zero_or_pos (q * m) with h0 | h0
              · exact absurd (by rw [HPM.out, h0, Nat.zero_mul]) HP.out
              · exact h0)
            have HLE : Hid (q * m ≤ prodN (toN xs)) := Lib.hid (by rw [HPM.out]; exact Nat.le_mul_of_pos_right _ hpos)
            have hmul : ((q : Nat) : Int) * ((m : Nat) : Int) = ((q * m : Nat) : Int) := by simp
            obtain ⟨p, hp⟩ : ∃ p, q * m = p := ⟨_, rfl⟩
            rw [hp] at hmul hqm HPM HPN HLE
            have hwr : IntKind.i64.wrap (((q : Nat) : Int) * ((m : Nat) : Int)) = ((p : Nat) : Int) := by rw [hmul, IntKind.wrap_i64]; omega
            clear hpos HD hp hmul
            by_cases hgt : 1048576 < p
            · have hgti : (1048576 : Int) < ((p : Nat) : Int) := by omega
              have HB : Hid (rightB xs = false) := Lib.hid (by
                cases hb : rightB xs with
                | false => rfl
                | true => have := (right_iff.1 hb).2.2; have := HLE.out; omega)
              have HC := Lib.hid (cnt_no HB.out)
              go_wp2
              go_ret2
              exact ⟨by rw [HB.out, HC.out]; rfl, rfl⟩
            · have hgti : ¬ (1048576 : Int) < ((p : Nat) : Int) := by omega
              go_wp2
              go_roundg (n - (k + 1))
              case rel => exact ⟨k + 1, p, by omega, rfl, rfl, by go_num, HPN.out, by omega, HPM, rfl⟩
              case measure => omega
          · obtain rfl : n = k := by omega
            have HE : Hid (prodN (toN xs) = q) := Lib.hid (by rw [HQ.out, List.drop_of_length_le (by rw [HN.out]; exact Nat.le_refl _)]; simp [toN, prodN])
            have HB : Hid (rightB xs = true) := Lib.hid (right_iff.2 ⟨by rw [HN.out]; omega, HAL.out, by rw [HE.out]; exact hq⟩)
            have HC : Hid (cnt xs = q) := Lib.hid ((cnt_yes HB.out).trans HE.out)
            go_wp2
            go_ret2
            exact ⟨by rw [HB.out, HC.out]; rfl, rfl⟩
      · obtain ⟨hB, hC⟩ := right_zero (xs := xs) (by rw [HN.out]; omega) HAL.out (zero_of_any hz)
        have HB := Lib.hid hB
        have HC := Lib.hid hC
        clear hz hd1 HZ HA hB hC
        go_wp2
        go_ret2
        exact ⟨by rw [HB.out, HC.out]; rfl, rfl⟩
end Go.Proofs.Ytfdlngcaopcaoaa
