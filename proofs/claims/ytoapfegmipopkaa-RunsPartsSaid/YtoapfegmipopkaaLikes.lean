/-
  What runs.likeFirst, runs.beforeRun and bytes.Equal come to.
-/
import Derived.Test.YtoapfegmipopkaaOpens
import Derived.Test.YtoapfegmipopkaaEnc
import Derived.Deep.LoopGhost
import Derived.WalkMore
namespace Go.Proofs.Ytoapfegmipopkaa
open Go.RowKit

theorem lik_at {xs : List Int} {a : Int} {k : Nat} (hk : k < xs.length) : lik a (xs.drop k) = if xs.getD k 0 = a then lik a (xs.drop (k + 1)) + 1 else 0 := by rw [drop_cons_ xs k hk, lik]
theorem bef_at {xs : List Int} {k : Nat} (hk : k < xs.length) : bef (xs.drop k) = if k + 2 < xs.length ∧ xs.getD (k + 1) 0 = xs.getD k 0 ∧ xs.getD (k + 2) 0 = xs.getD k 0 then 0 else bef (xs.drop (k + 1)) + 1 := by
  rw [drop_cons_ xs k hk, bef]
  congr 1
  by_cases h2 : k + 2 < xs.length
  · rw [drop_cons_ xs (k + 1) (by omega), drop_cons_ xs (k + 1 + 1) (by omega), List.take_succ_cons, List.take_succ_cons, List.take_zero]
    simp only [List.cons.injEq, and_true, h2, true_and]
  · have : ((xs.drop (k + 1)).take 2).length < 2 := by simp; omega
    simp only [h2, false_and, eq_iff_iff, iff_false]
    intro e
    rw [e] at this
    simp at this

set_option maxRecDepth 10000 in
set_option maxHeartbeats 800000 in
theorem like_any (A : Option Addr) (n cap : Nat) (xs : List Int) (w : World) (hn : xs.length = n) (h1 : 1 ≤ n) (hl : n ≤ 1000000000000) (hr : Nums .u8 w w.heap.size A xs) :
    Calls Try.prog 22 #[.slice A n cap] w fun e w' => e = .returned (.int .i64 (lik (xs.getD 0 0) xs : Nat)) ∧ Grow w w' := by
  obtain ⟨a, ha⟩ : ∃ a, xs.getD 0 0 = a := ⟨_, rfl⟩
  rw [ha]
  have HR := Lib.hid hr
  have HN := Lib.hid hn
  have HA := Lib.hid ha
  have hl0 : lik a xs = 1 + lik a (xs.drop 1) := by
    have := lik_at (xs := xs) (a := a) (k := 0) (by omega)
    rw [List.drop_zero, if_pos ha, Nat.zero_add] at this
    omega
  have HL0 := Lib.hid hl0
  obtain ⟨b, off, rfl, _, _⟩ := hr (by omega)
  clear hr hn ha hl0
  go_enter Try.func22, Try.ntmps22
  go_wp2
  go_loopw [3] (fun i wr => ∃ k : Nat, 1 ≤ k ∧ k ≤ n ∧ i = .int .i64 k ∧ lik a xs = k + lik a (xs.drop k) ∧ Grow w wr)
    (fun i _ => n - (intOf i).toNat)
  case atStart => exact ⟨1, by omega, by omega, rfl, HL0.out, Grow.refl _⟩
  case round =>
    obtain ⟨k, hk1, hk, rfl, hq, hg⟩ := hrel
    have hN := HR.out.grow hg
    obtain ⟨b', off', hb', _, hc⟩ := hN (by rw [HN.out]; omega)
    cases hb'
    have hc0 := hc 0 (by rw [HN.out]; omega)
    rw [Nat.add_zero, HA.out] at hc0
    have HG := Lib.hid hg
    clear hg hN
    by_cases hlt : k < n
    · have hck := hc k (by rw [HN.out]; omega)
      have hla := lik_at (xs := xs) (a := a) (k := k) (by rw [HN.out]; omega)
      clear hc
      generalize xs.getD k 0 = c at *
      have hki : (k : Int) < (n : Int) := by omega
      by_cases hca : c = a
      · subst hca
        rw [if_pos rfl] at hla
        have HQ := Lib.hid (show lik c xs = (k + 1) + lik c (xs.drop (k + 1)) by omega)
        clear hq hla
        go_wp2_with fail
        go_quiet (fail)
        go_wp2
        go_roundw
        case rel => exact ⟨k + 1, by omega, by omega, by go_num, HQ.out, HG.out.drewN _⟩
        case measure => simp [intOf]; omega
      · rw [if_neg hca] at hla
        have HQ := Lib.hid (show lik a xs = k by omega)
        have hne : (c == a) = false := by simpa using hca
        clear hq hla
        go_wp2_with fail
        go_quiet (fail)
        go_wp2
        go_ret
        exact ⟨by rw [HQ.out]; rfl, HG.out.drewN _⟩
    · have e : k = n := by omega
      subst e
      have HQ := Lib.hid (show lik a xs = k by rw [List.drop_of_length_le (by rw [HN.out]; omega)] at hq; simpa [lik] using hq)
      have hki : decide ((k : Int) < (k : Int)) = false := by simp
      clear hq hc
      go_wp2_with fail
      go_quiet (fail)
      go_wp2
      go_ret
      exact ⟨by rw [HQ.out]; rfl, HG.out.drewN _⟩

set_option maxRecDepth 10000 in
set_option maxHeartbeats 1600000 in
theorem before_any (A : Option Addr) (n cap : Nat) (xs : List Int) (w : World) (hn : xs.length = n) (hl : n ≤ 1000000000000) (hr : Nums .u8 w w.heap.size A xs) :
    Calls Try.prog 21 #[.slice A n cap] w fun e w' => e = .returned (.int .i64 (bef xs : Nat)) ∧ Grow w w' := by
  have HR := Lib.hid hr
  have HN := Lib.hid hn
  clear hr hn
  go_enter Try.func21, Try.ntmps21
  go_wp2
  go_step3
  go_wp2
  go_step3
  go_wp2
  go_loopg [7] n (fun gk i wr => ∃ k : Nat, k ≤ n ∧ gk = n - k ∧ i = .int .i64 k ∧ bef xs = k + bef (xs.drop k) ∧ Grow w wr)
  case atStart => exact ⟨0, by omega, rfl, rfl, by simp, Grow.refl _⟩
  case round =>
    obtain ⟨k, hk, rfl, rfl, hq, hg⟩ := hrel
    have HG := Lib.hid hg
    clear hg
    by_cases hlt : k < n
    · have hkx : k < xs.length := by rw [HN.out]; exact hlt
      have HB := Lib.hid (bef_at hkx)
      have HQ := Lib.hid hq
      obtain ⟨a, ha⟩ : ∃ a, xs.getD k 0 = a := ⟨_, rfl⟩
      have HA := Lib.hid ha
      rw [ha] at HB
      clear hq ha hkx
      go_wp2
      go_loopg [4] 2 (fun gz i wz => ∃ j m : Nat, j ≤ 2 ∧ m = k + 1 + j ∧ gz = 2 - j ∧ i = .int .i64 (m : Nat) ∧ (1 ≤ j → k + 1 < n ∧ xs.getD (k + 1) 0 = a) ∧ (2 ≤ j → k + 2 < n ∧ xs.getD (k + 2) 0 = a) ∧ Grow w wz)
      case atStart => exact ⟨0, k + 1, by omega, rfl, rfl, by go_num, by omega, by omega, HG.out⟩
      case round =>
        obtain ⟨j, m, hj, hm, rfl, rfl, hj1, hj2, hgz⟩ := hrel
        have HM := Lib.hid hm
        have HGZ := Lib.hid hgz
        by_cases h2 : j = 2
        · subst h2
          have hf := hj2 (by omega)
          have hf1 := hj1 (by omega)
          have HE := Lib.hid (show bef xs = k by
            have h1 := HQ.out
            have h3 := HB.out
            rw [if_pos ⟨by rw [HN.out]; exact hf.1, hf1.2, hf.2⟩] at h3
            omega)
          have hge : ¬ ((m : Int) < (k : Int) + 3) := by omega
          clear hj1 hj2 hf hf1 hgz hm
          go_wp2
          (try rw [Exit.noGoto_ret])
          go_ret
          exact ⟨by rw [HE.out]; rfl, HGZ.out⟩
        · have hN := HR.out.grow hgz
          obtain ⟨b, off, rfl, _, hc⟩ := hN (by rw [HN.out]; omega)
          have hck := hc k (by rw [HN.out]; omega)
          rw [HA.out] at hck
          have hstop : (m = n ∨ xs.getD m 0 ≠ a) → bef xs = (k + 1) + bef (xs.drop (k + 1)) := fun hs => by
            have h1 := HQ.out
            have h3 := HB.out
            rw [if_neg] at h3
            · omega
            · rintro ⟨q1, q2, q3⟩
              rw [HN.out] at q1
              rcases hs with hs | hs
              · omega
              · have : j = 0 ∨ j = 1 := by omega
                rcases this with rfl | rfl
                · rw [HM.out] at hs; exact hs q2
                · rw [HM.out] at hs; exact hs q3
          have HS := Lib.hid hstop
          clear hgz hN hstop
          have hlt3 : (m : Int) < (k : Int) + 3 := by omega
          by_cases he : m = n
          · have HT := Lib.hid (HS.out (.inl he))
            have hd : ((m : Int) == (n : Int)) = true := by simp; omega
            clear hc hj1 hj2 hm
            go_wp2_with fail
            go_quiet (fail)
            go_wp2
            go_roundg (n - (k + 1))
            case rel => exact ⟨k + 1, by omega, rfl, by go_num, HT.out, HGZ.out.drewN _⟩
            case measure => omega
          · have hnlt : m < n := by
              by_cases h0 : j = 0
              · omega
              · have := hj1 (by omega); omega
            have hcn := hc m (by rw [HN.out]; omega)
            have hd : ((m : Int) == (n : Int)) = false := by simp; omega
            have hlti : (m : Int) < (n : Int) := by omega
            by_cases hca : xs.getD m 0 = a
            · rw [hca] at hcn
              have hneq : (a != a) = false := by simp
              have HJ1 := Lib.hid (show 1 ≤ j + 1 → k + 1 < n ∧ xs.getD (k + 1) 0 = a from fun _ => ⟨by omega, by
                by_cases h0 : j = 0
                · subst h0; rw [HM.out] at hca; exact hca
                · exact (hj1 (by omega)).2⟩)
              have HJ2 := Lib.hid (show 2 ≤ j + 1 → k + 2 < n ∧ xs.getD (k + 2) 0 = a from fun h => by
                have : j = 1 := by omega
                subst this
                rw [HM.out] at hca
                exact ⟨by omega, hca⟩)
              clear hc hj1 hj2 hca hm
              go_wp2_with fail
              go_quiet (fail)
              go_wp2
              go_roundg (2 - (j + 1))
              case rel => exact ⟨j + 1, m + 1, by omega, by have := HM.out; omega, rfl, by go_num, HJ1.out, HJ2.out, HGZ.out.drewN _⟩
              case measure => omega
            · have HT := Lib.hid (HS.out (.inr hca))
              clear hc hj1 hj2 hm
              generalize xs.getD m 0 = c at *
              have hneq : (c != a) = true := by simpa using hca
              go_wp2_with fail
              go_quiet (fail)
              go_wp2
              go_roundg (n - (k + 1))
              case rel => exact ⟨k + 1, by omega, rfl, by go_num, HT.out, HGZ.out.drewN _⟩
              case measure => omega
    · have e : k = n := by omega
      subst e
      have HE := Lib.hid (show bef xs = k by rw [List.drop_of_length_le (by rw [HN.out]; omega)] at hq; simpa [bef] using hq)
      clear hq
      go_wp2
      (try rw [Exit.noGoto_ret])
      go_ret
      exact ⟨by rw [HE.out]; rfl, HG.out⟩

set_option maxHeartbeats 400000 in
theorem equal_any (A A' : Option Addr) (n n' cap cap' : Nat) (xs ys : List Int) (w : World) (B B' : Nat) (hn : xs.length = n) (hn' : ys.length = n') (hx : Byt xs) (hy : Byt ys) (hr : Nums .u8 w B A xs) (hr' : Nums .u8 w B' A' ys) :
    Calls Try.prog 19 #[.slice A n cap, .slice A' n' cap'] w fun e w' => e = .returned (.bool (decide (xs = ys))) ∧ w = w' := by
  subst hn hn'
  have hc1 := conv_any (k := 22) cap hr rfl
  have hc2 := conv_any (k := 22) cap' hr' rfl
  have HE := Lib.hid (str_inj xs ys hx hy)
  go_enter Try.func19, Try.ntmps19
  go_wp2
  go_ret
  have heq : ((strOfNums xs).toList == (strOfNums ys).toList) = decide (xs = ys) := by
    rw [Bool.eq_iff_iff]
    simpa using HE.out
  exact ⟨by rw [← heq]; rfl, rfl⟩
end Go.Proofs.Ytoapfegmipopkaa
