/-
  What decimal.Whole comes to.
-/
import Derived.Test.YtkebngldmcoaaaaGreatDoorNorms
namespace Go.Proofs.YtkebngldmcoaaaaGreatDoor
open Go.RowKit

instance (n : Int) : Decidable (In n) := by unfold In; exact inferInstance

def wholeD (m e : Int) : Int × Bool := if rightB m e = true ∧ 0 ≤ e ∧ In (m * 10 ^ e.toNat) then (m * 10 ^ e.toNat, true) else (0, false)

theorem far {n : Int} (k : Nat) (h : ¬ In n) : ¬ In (n * 10 ^ k) := by
  intro hi
  exact h (q_in hi rfl)

theorem whole_not {m e n : Int} {i E : Nat} (hn : n = m * 10 ^ i) (hE : e = (E : Nat)) (hi : i < E) (h : ¬ In (n * 10)) : wholeD m e = (0, false) := by
  unfold wholeD
  rw [if_neg]
  rintro ⟨_, _, hin⟩
  subst hE
  rw [Int.toNat_natCast, show E = (i + 1) + (E - (i + 1)) by omega, Int.pow_add, ← Int.mul_assoc, Int.pow_succ, ← Int.mul_assoc, ← hn] at hin
  exact far _ h hin

theorem whole_yes {m e n : Int} {E : Nat} (hr : rightB m e = true) (hE : e = (E : Nat)) (hn : n = m * 10 ^ E) (hin : In n) : wholeD m e = (n, true) := by
  subst hE
  unfold wholeD
  rw [Int.toNat_natCast, ← hn, if_pos ⟨hr, by omega, hin⟩]

theorem whole_wrong {m e : Int} (h : rightB m e = false ∨ e < 0) : wholeD m e = (0, false) := by
  unfold wholeD
  rw [if_neg]
  rintro ⟨h1, h2, _⟩
  rcases h with h | h
  · rw [h] at h1; cases h1
  · omega

set_option maxRecDepth 10000 in
set_option maxHeartbeats 800000 in
theorem whole_any (m e : Int) (w : World) (hm : In m) (he : In e) :
    Calls Tryz.prog 44 #[.agg #[.int .i64 m, .int .i64 e]] w fun x w' => x = .returned (.tuple #[.int .i64 (wholeD m e).1, .bool (wholeD m e).2]) ∧ Grow w w' := by
  have HC := Lib.hid (fun W => right_any m e W hm he)
  have hm1 := hm.1; have hm2 := hm.2; have he1 := he.1; have he2 := he.2
  clear hm he
  go_enter Tryz.func44, Tryz.ntmps44
  go_wp2_with fail
  refine (HC.out _).mono ?_
  rintro x w1 ⟨rfl, hg⟩
  have hb := (boxed_new w (.int .i64 m) (.int .i64 e) 28).grow hg
  have hc0 := hb.fst
  have hc1 := hb.snd
  have HG := Lib.hid ((grow_new w _).trans hg)
  clear hb hg HC
  obtain ⟨r, hr⟩ : ∃ r, rightB m e = r := ⟨_, rfl⟩
  rw [hr]
  cases r
  · have HW := Lib.hid (whole_wrong (.inl hr))
    clear hr
    go_wp2
    go_ret2
    exact ⟨by rw [HW.out]; rfl, HG.out⟩
  · by_cases hneg : e < 0
    · have HW := Lib.hid (whole_wrong (m := m) (.inr hneg))
      clear hr
      go_wp2
      go_ret2
      exact ⟨by rw [HW.out]; rfl, HG.out⟩
    · obtain ⟨E, rfl⟩ := Int.eq_ofNat_of_zero_le (show 0 ≤ e by omega)
      have HR := Lib.hid hr
      clear hr
      go_wp2
      go_loopg [4, 17] E (fun gk s4 s17 wr => ∃ (n : Int) (i : Nat), gk = E - i ∧ i ≤ E ∧ s4 = .int .i64 n ∧ s17 = .int .i64 i ∧ Hid (n = m * 10 ^ i) ∧ -9223372036854775808 ≤ n ∧ n ≤ 9223372036854775807 ∧ w1 = wr)
      case atStart => exact ⟨m, 0, rfl, by omega, rfl, rfl, Lib.hid (by simp), hm1, hm2, rfl⟩
      case round =>
        obtain ⟨n, i, rfl, hiE, rfl, rfl, HN, hn1, hn2, rfl⟩ := hrel
        by_cases hlt : i < E
        · by_cases hhi : 922337203685477580 < n
          · have HW := Lib.hid (whole_not HN.out rfl hlt (fun h => by have := h.2; omega))
            go_wp2
            go_ret2
            exact ⟨by rw [HW.out]; rfl, HG.out⟩
          · by_cases hlo : n < -922337203685477580
            · have HW := Lib.hid (whole_not HN.out rfl hlt (fun h => by have := h.1; omega))
              go_wp2
              go_ret2
              exact ⟨by rw [HW.out]; rfl, HG.out⟩
            · have HN' : Hid (n * 10 = m * 10 ^ (i + 1)) := Lib.hid (by rw [HN.out, Int.pow_succ, Int.mul_assoc])
              have hE9 : (E : Int) ≤ 9223372036854775807 := he2
              go_wp2
              go_roundg (E - (i + 1))
              · exact ⟨n * 10, i + 1, rfl, hlt, rfl, rfl, HN', by omega, by omega, rfl⟩
              · omega
        · have hi : i = E := by omega
          subst hi
          have HW := Lib.hid (whole_yes HR.out rfl HN.out ⟨hn1, hn2⟩)
          clear hlt
          go_wp2
          go_ret2
          exact ⟨by rw [HW.out]; rfl, HG.out⟩

theorem whole_far {m e : Int} (hm : In m) (he : 18 < e) : wholeD m e = (0, false) := by
  unfold wholeD
  rw [if_neg]
  rintro ⟨hr, _, hin⟩
  have hq : m ≠ 0 := by
    intro h0
    subst h0
    rcases (rightB_iff hm).1 hr with ⟨_, h⟩ | ⟨h, _⟩ <;> omega
  have := j_le hin rfl hq
  omega

end Go.Proofs.YtkebngldmcoaaaaGreatDoor
