/-
  What the document's own Take comes to.
-/
import Derived.Test.YtoapfegmipopkaaTake
namespace Go.Proofs.Ytoapfegmipopkaa
open Go.RowKit

set_option maxRecDepth 10000 in
set_option maxHeartbeats 1600000 in
theorem rtake_any (A : Option Addr) (cap n : Nat) (bs : List Int) (w : World) (B : Nat) (hn : bs.length = n) (hl : n ≤ 1000000000000000000) (hb : Byt bs) (hr : Nums .u8 w B A bs) :
    Calls Try.prog 41 #[.slice A n cap] w fun e w' => e = .returned (told (takeN bs)) ∧ w' = w := by
  have HR := Lib.hid hr
  have HB := Lib.hid hb
  have HN := Lib.hid hn
  clear hr hb hn
  go_enter Try.func41, Try.ntmps41
  go_wp2
  go_loopw [5, 6, 7] (fun v u i wr => ∃ k x W : Nat, k ≤ n ∧ k ≤ 9 ∧ i = .int .i64 k ∧ v = .int .u64 x ∧ u = .int .u64 W ∧ W = 128 ^ k ∧ x < W ∧ takeN bs = takeAt k x (bs.drop k) ∧ wr = w)
    (fun _ _ i _ => 10 - (intOf i).toNat)
  case atStart => exact ⟨0, 0, 1, Nat.zero_le _, by omega, rfl, rfl, rfl, rfl, by decide, rfl, rfl⟩
  case round =>
    obtain ⟨k, x, W, hk, hk9, rfl, rfl, rfl, hW, hx, hq, rfl⟩ := hrel
    by_cases hlt : k < n
    · have hkl : k < bs.length := by rw [HN.out]; exact hlt
      obtain ⟨b, off, rfl, _, hc⟩ := HR.out (by omega)
      have hcell := hc k hkl
      have hc01 := HB.out.at_ k
      rw [drop_cons_ bs k hkl, takeAt] at hq
      clear hc
      generalize bs.getD k 0 = c at *
      obtain ⟨C, rfl⟩ := Int.eq_ofNat_of_zero_le hc01.1
      have hC : C < 256 := by omega
      by_cases hbad : (k = 9 ∧ 1 < (C : Int)) ∨ (0 < k ∧ (C : Int) = 0)
      · rw [if_pos hbad] at hq
        have HQ := Lib.hid hq
        clear hq hx hW
        by_cases h9 : k = 9
        · subst h9
          by_cases h0 : C = 0
          · subst h0
            clear hbad
            go_wp2
            go_ret3
            exact ⟨by rw [HQ.out]; rfl, rfl⟩
          · have h1 : 1 < C := by omega
            clear hbad
            go_wp2
            go_ret3
            exact ⟨by rw [HQ.out]; rfl, rfl⟩
        · have h0 : C = 0 := by omega
          subst h0
          have hkp : 0 < k := by omega
          clear hbad
          go_wp2
          go_ret3
          exact ⟨by rw [HQ.out]; rfl, rfl⟩
      · rw [if_neg hbad] at hq
        obtain ⟨D, hD⟩ : ∃ D, C % 128 = D := ⟨_, rfl⟩
        have hrem : (C : Int) % 128 = (D : Int) := by omega
        have hDk : k = 9 → D ≤ 1 := by omega
        have hP : D * W < 18446744073709551616 ∧ x + D * W < 18446744073709551616 ∧ x < 18446744073709551616 ∧ W < 18446744073709551616 := by
          have e9 : (128 : Nat) ^ 9 = 9223372036854775808 := by decide
          by_cases h9 : k = 9
          · have := hDk h9
            rw [h9, e9] at hW
            have h1 : D * W ≤ 1 * W := Nat.mul_le_mul_right _ this
            omega
          · have := Nat.pow_le_pow_right (n := 128) (by decide) (show k ≤ 8 by omega)
            rw [show (128 : Nat) ^ 8 = 72057594037927936 by decide, ← hW] at this
            have h1 : D * W ≤ 127 * W := Nat.mul_le_mul_right _ (by omega)
            omega
        have hnx : x + D * W < W * 128 := by
          have h1 : D * W ≤ 127 * W := Nat.mul_le_mul_right _ (by omega)
          omega
        have hW8 : k ≤ 8 → W * 128 < 18446744073709551616 := by
          intro h8
          have := Nat.pow_le_pow_right (n := 128) (by decide) h8
          rw [show (128 : Nat) ^ 8 = 72057594037927936 by decide, ← hW] at this
          omega
        obtain ⟨P, hPq⟩ : ∃ P, D * W = P := ⟨_, rfl⟩
        have hwD : IntKind.u64.wrap (D : Int) = (D : Int) := by rw [IntKind.wrap_u64]; omega
        rw [hPq] at hP hnx
        have hmul : IntKind.u64.wrap ((D : Int) * (W : Int)) = (P : Int) := by
          rw [IntKind.wrap_u64, show (D : Int) * (W : Int) = ((D * W : Nat) : Int) by simp, hPq]
          omega
        obtain ⟨y, hy⟩ : ∃ y, x + P = y := ⟨_, rfl⟩
        rw [hy] at hP hnx
        have hadd : IntKind.u64.wrap ((x : Int) + (P : Int)) = (y : Int) := by rw [IntKind.wrap_u64]; omega
        have hq1 : C < 128 → takeN bs = (y, k + 1, 0) := fun h => by
          rw [hq, if_pos (by omega), Int.toNat_natCast, show C = D by omega, ← hW, hPq, hy]
        have hq2 : ¬ C < 128 → takeN bs = takeAt (k + 1) y (bs.drop (k + 1)) := fun h => by
          rw [hq, if_neg (by omega), Int.toNat_natCast, show C - 128 = D by omega, ← hW, hPq, hy]
        have hWn : 128 ^ (k + 1) = W * 128 := by rw [Nat.pow_succ, hW]
        have HN1 := Lib.hid hnx
        have HWN := Lib.hid hWn
        have hxl := hP.2.2.1
        have hyl := hP.2.1
        have hWl := hP.2.2.2
        clear hq hP hnx hPq hx hWn hW
        have HY := Lib.hid hy
        clear hy hD
        by_cases h9 : k = 9
        · have hC1 : C ≤ 1 := by omega
          have hC0 : 0 < C := by omega
          have HQ := Lib.hid (show takeN bs = (y, 10, 0) by rw [hq1 (by omega), h9])
          have hk9' : 9 ≤ k := by omega
          have hcell9 := hcell
          rw [h9] at hcell9
          have t1 : ((C : Int) == 0) = false := by simp; omega
          have t2 : decide ((1 : Int) < (C : Int)) = false := by simp; omega
          clear hq1 hq2 hbad hDk h9
          go_wp2
          go_ret3
          exact ⟨by rw [HQ.out]; rfl, rfl⟩
        · by_cases hk0 : k = 0
          · have hkp : k ≤ 0 := by omega
            clear hbad hDk h9 hk0
            by_cases hend : C < 128
            · have HQ := Lib.hid (hq1 hend)
              clear hq1 hq2
              go_wp2
              go_ret3
              exact ⟨by rw [HQ.out]; rfl, rfl⟩
            · have HQ := Lib.hid (hq2 hend)
              have hw8 := hW8 (by omega)
              have hw128 : IntKind.u64.wrap ((W : Int) * 128) = ((W * 128 : Nat) : Int) := by rw [IntKind.wrap_u64]; omega
              clear hq1 hq2 hW8
              go_wp2
              go_roundw
              case rel => exact ⟨k + 1, y, W * 128, by omega, by omega, by go_num, rfl, by simp, HWN.out.symm, HN1.out, HQ.out, trivial⟩
              case measure => simp [intOf]; omega
          · have hkp : 0 < k := by omega
            have hC0 : ¬ C = 0 := by omega
            clear hbad hDk
            by_cases hend : C < 128
            · have HQ := Lib.hid (hq1 hend)
              clear hq1 hq2
              go_wp2
              go_ret3
              exact ⟨by rw [HQ.out]; rfl, rfl⟩
            · have HQ := Lib.hid (hq2 hend)
              have hw8 := hW8 (by omega)
              have hw128 : IntKind.u64.wrap ((W : Int) * 128) = ((W * 128 : Nat) : Int) := by rw [IntKind.wrap_u64]; omega
              clear hq1 hq2 hW8
              go_wp2
              go_roundw
              case rel => exact ⟨k + 1, y, W * 128, by omega, by omega, by go_num, rfl, by simp, HWN.out.symm, HN1.out, HQ.out, trivial⟩
              case measure => simp [intOf]; omega
    · have e : k = n := by omega
      subst e
      rw [List.drop_of_length_le (by rw [HN.out]; exact Nat.le_refl _), takeAt] at hq
      have HQ := Lib.hid hq
      clear hq hx hW
      go_wp2
      go_ret3
      exact ⟨by rw [HQ.out]; rfl, rfl⟩
end Go.Proofs.Ytoapfegmipopkaa
