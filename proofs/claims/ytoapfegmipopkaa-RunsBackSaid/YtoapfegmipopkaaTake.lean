/-
  What varint.Take comes to, called with any bytes.
-/
import Derived.Test.YtoapfegmipopkaaPlain
import Derived.OwnWalk
namespace Go.Proofs.Ytoapfegmipopkaa
open Go.RowKit

/-- what Take answers -/
def told (t : Nat × Nat × Nat) : Value := .tuple #[.int .u64 (t.1 : Nat), .int .i64 (t.2.1 : Nat), .int .i64 (t.2.2 : Nat)]

theorem pow7 (k : Nat) : (2 : Nat) ^ (7 * k) = 128 ^ k := by rw [Nat.pow_mul]

set_option maxRecDepth 10000 in
set_option maxHeartbeats 800000 in
theorem take_any (A : Option Addr) (cap : Nat) (bs : List Int) (w : World) (B : Nat) (hl : bs.length ≤ 1000000000000000000) (hb : Byt bs) (hr : Nums .u8 w B A bs) :
    Calls Try.prog 35 #[.slice A bs.length cap] w fun e w' => e = .returned (told (takeN bs)) ∧ w' = w := by
  have HR := Lib.hid hr
  have HB := Lib.hid hb
  clear hr hb
  go_enter Try.func35, Try.ntmps35
  go_wp2
  go_loopw [5, 12] (fun v i wr => ∃ k x : Nat, k ≤ bs.length ∧ k ≤ 9 ∧ i = .int .i64 k ∧ v = .int .u64 x ∧ x < 128 ^ k ∧ takeN bs = takeAt k x (bs.drop k) ∧ wr = w)
    (fun _ i _ => bs.length - (intOf i).toNat)
  case atStart => exact ⟨0, 0, Nat.zero_le _, by omega, rfl, rfl, by decide, rfl, rfl⟩
  case round =>
    obtain ⟨k, x, hk, hk9, rfl, rfl, hx, hq, rfl⟩ := hrel
    by_cases hlt : k < bs.length
    · obtain ⟨b, off, rfl, _, hc⟩ := HR.out (by omega)
      have hcell := hc k hlt
      have hc01 := HB.out.at_ k
      rw [drop_cons_ bs k hlt, takeAt] at hq
      clear hc
      generalize bs.getD k 0 = c at *
      obtain ⟨C, rfl⟩ := Int.eq_ofNat_of_zero_le hc01.1
      have hC : C < 256 := by omega
      by_cases hbad : (k = 9 ∧ 1 < (C : Int)) ∨ (0 < k ∧ (C : Int) = 0)
      · rw [if_pos hbad] at hq
        have HQ := Lib.hid hq
        clear hq hx
        by_cases h9 : k = 9
        · subst h9
          by_cases h0 : C = 0
          · subst h0
            clear hbad
            go_wp2
            go_ret3
            exact ⟨by rw [HQ.out]; rfl, rfl⟩
          · have h1 : 1 < C := by omega
            clear hbad
            go_wp2
            go_ret3
            exact ⟨by rw [HQ.out]; rfl, rfl⟩
        · have h0 : C = 0 := by omega
          subst h0
          have hkp : 0 < k := by omega
          clear hbad
          go_wp2
          go_ret3
          exact ⟨by rw [HQ.out]; rfl, rfl⟩
      · rw [if_neg hbad] at hq
        obtain ⟨D, hD⟩ : ∃ D, C % 128 = D := ⟨_, rfl⟩
        have hand : bits .andNot .u8 (C : Int) 128 = (D : Int) := by
          have h := u8_andNot_nat C 128 hC (by decide)
          rw [show (255 - 128 : Nat) = 127 from rfl, low7, hD] at h
          exact h
        have hDk : k = 9 → D ≤ 1 := by omega
        have hP : D * 128 ^ k < 18446744073709551616 ∧ x + D * 128 ^ k < 18446744073709551616 ∧ x < 18446744073709551616 := by
          have e9 : (128 : Nat) ^ 9 = 9223372036854775808 := by decide
          by_cases h9 : k = 9
          · have := hDk h9
            subst h9
            rw [e9] at hx ⊢
            omega
          · have := Nat.pow_le_pow_right (n := 128) (by decide) (show k ≤ 8 by omega)
            rw [show (128 : Nat) ^ 8 = 72057594037927936 by decide] at this
            have h1 : D * 128 ^ k ≤ 127 * 128 ^ k := Nat.mul_le_mul_right _ (by omega)
            omega
        have hnx : D ≤ 127 → x + D * 128 ^ k < 128 ^ (k + 1) := by
          intro hd
          have h1 : D * 128 ^ k ≤ 127 * 128 ^ k := Nat.mul_le_mul_right _ hd
          rw [Nat.pow_succ]
          omega
        obtain ⟨P, hPq⟩ : ∃ P, D * 128 ^ k = P := ⟨_, rfl⟩
        have hwD : IntKind.u64.wrap (D : Int) = (D : Int) := by rw [IntKind.wrap_u64]; omega
        have hsh : IntKind.u64.wrap ((D : Int) * 2 ^ (7 * k)) = (P : Int) := by
          rw [IntKind.wrap_u64, show (D : Int) * 2 ^ (7 * k) = ((D * 2 ^ (7 * k) : Nat) : Int) by simp, pow7, hPq]
          omega
        have hor : bits .or .u64 (x : Int) (P : Int) = ((x + P : Nat) : Int) := by
          rw [u64_or_nat x P hP.2.2 (by omega), ← hPq, ← pow7, or_add x D (7 * k) (by rw [pow7]; exact hx)]
        rw [hPq] at hP hnx
        obtain ⟨y, hy⟩ : ∃ y, x + P = y := ⟨_, rfl⟩
        rw [hy] at hor hP hnx
        have hDC : C < 128 → C = D := by omega
        have hq1 : C < 128 → takeN bs = (y, k + 1, 0) := fun h => by
          rw [hq, if_pos (by omega), Int.toNat_natCast, hDC h, hPq, hy]
        have hq2 : ¬ C < 128 → takeN bs = takeAt (k + 1) y (bs.drop (k + 1)) := fun h => by
          rw [hq, if_neg (by omega), Int.toNat_natCast, show C - 128 = D by omega, hPq, hy]
        have HN := Lib.hid hnx
        have hD1 := Lib.hid (show D ≤ 127 by omega)
        have hxl := hP.2.2
        have hyl := hP.2.1
        clear hq hP hnx hPq hy hx hDC hD
        by_cases h9 : k = 9
        · have hC1 : C ≤ 1 := by omega
          have hC0 : 0 < C := by omega
          have HQ := Lib.hid (show takeN bs = (y, 10, 0) by rw [hq1 (by omega), h9])
          have hk9' : 9 ≤ k := by omega
          have hsh9 : IntKind.u64.wrap ((D : Int) * 9223372036854775808) = (P : Int) := by rw [← hsh, h9]; simp
          have t1 : ((C : Int) == 0) = false := by simp; omega
          have t2 : decide ((1 : Int) < (C : Int)) = false := by simp; omega
          clear hq1 hq2 hbad hDk h9
          go_wp2
          go_ret3
          exact ⟨by rw [HQ.out]; rfl, rfl⟩
        · by_cases hk0 : k = 0
          · have hkp : k ≤ 0 := by omega
            clear hbad hDk h9 hk0
            by_cases hend : C < 128
            · have HQ := Lib.hid (hq1 hend)
              clear hq1 hq2
              go_wp2
              go_ret3
              exact ⟨by rw [HQ.out]; rfl, rfl⟩
            · have HQ := Lib.hid (hq2 hend)
              clear hq1 hq2
              go_wp2
              go_roundw
              case rel => exact ⟨k + 1, y, by omega, by omega, by go_num, rfl, HN.out hD1.out, HQ.out, trivial⟩
              case measure => simp [intOf]; omega
          · have hkp : 0 < k := by omega
            have hC0 : ¬ C = 0 := by omega
            clear hbad hDk
            by_cases hend : C < 128
            · have HQ := Lib.hid (hq1 hend)
              clear hq1 hq2
              go_wp2
              go_ret3
              exact ⟨by rw [HQ.out]; rfl, rfl⟩
            · have HQ := Lib.hid (hq2 hend)
              clear hq1 hq2
              go_wp2
              go_roundw
              case rel => exact ⟨k + 1, y, by omega, by omega, by go_num, rfl, HN.out hD1.out, HQ.out, trivial⟩
              case measure => simp [intOf]; omega
    · have e : k = bs.length := by omega
      subst e
      rw [List.drop_length, takeAt] at hq
      have HQ := Lib.hid hq
      clear hq hx
      go_wp2
      go_ret3
      exact ⟨by rw [HQ.out]; rfl, rfl⟩
end Go.Proofs.Ytoapfegmipopkaa
