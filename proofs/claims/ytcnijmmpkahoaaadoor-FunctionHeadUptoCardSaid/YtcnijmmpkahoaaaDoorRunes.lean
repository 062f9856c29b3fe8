/-
  Signs as a range over a text tells them. Nothing is claimed here by itself.
-/
import Derived.Test.YtcnijmmpkahoaaaDoorUtf
import Derived.Lib.TrimUEq
import Derived.Lib.RuneBytes
namespace Go.Proofs.YtcnijmmpkahoaaaDoor
set_option linter.unusedSimpArgs false
set_option maxRecDepth 10000
open Go.Lib

/-- what a range over a text tells of the sign that stands first -/
def runeD (l : List UInt8) : Nat × Nat := if (nextD l).2 = 0 then (65533, 1) else nextD l

theorem runeD_of {l : List UInt8} {c n : Nat} (h : nextD l = (c, n)) (hn : n ≠ 0) : runeD l = (c, n) := by
  unfold runeD
  rw [h, if_neg hn]
theorem runeD_no {l : List UInt8} (h : nextD l = (0, 0)) : runeD l = (65533, 1) := by
  unfold runeD
  rw [h, if_pos rfl]

theorem goes_div {b : UInt8} : goesOn b = true ↔ b.toNat / 64 = 2 := by
  have := u8_lt b
  rw [goesOn_iff]
  omega

theorem next_two_no {b : UInt8} {r : List UInt8} (h0 : 192 ≤ b.toNat) (h1 : b.toNat < 224) (h : ¬ ∃ x t, r = x :: t ∧ goesOn x = true ∧ 128 ≤ 64 * (b.toNat - 192) + (x.toNat - 128)) : nextD (b :: r) = (0, 0) := by
  by_cases hz : (nextD (b :: r)).2 = 0
  · rw [nextD_cons, if_neg (by omega), if_neg (by omega), if_pos h1] at hz ⊢
    unfold many at hz ⊢
    split
    · split
      · rename_i hm hd
        rw [hm] at hz
        simp only at hz
        rw [if_pos hd] at hz
        cases hz
      · rfl
    · rfl
  · exfalso
    rw [nextD_cons, if_neg (by omega), if_neg (by omega), if_pos h1] at hz
    obtain ⟨d, hm, hl, _, _⟩ := many_not hz
    obtain ⟨x, t, rfl, hx, hm⟩ := more_some hm
    have hd := more_nil hm
    exact h ⟨x, t, rfl, hx, by omega⟩
theorem next_three_no {b : UInt8} {r : List UInt8} (h0 : 224 ≤ b.toNat) (h1 : b.toNat < 240) (h : ¬ ∃ x y t, r = x :: y :: t ∧ goesOn x = true ∧ goesOn y = true ∧ 2048 ≤ 64 * (64 * (b.toNat - 224) + (x.toNat - 128)) + (y.toNat - 128) ∧ isSign (64 * (64 * (b.toNat - 224) + (x.toNat - 128)) + (y.toNat - 128)) = true) : nextD (b :: r) = (0, 0) := by
  by_cases hz : (nextD (b :: r)).2 = 0
  · rw [nextD_cons, if_neg (by omega), if_neg (by omega), if_neg (by omega), if_pos h1] at hz ⊢
    unfold many at hz ⊢
    split
    · split
      · rename_i hm hd
        rw [hm] at hz
        simp only at hz
        rw [if_pos hd] at hz
        cases hz
      · rfl
    · rfl
  · exfalso
    rw [nextD_cons, if_neg (by omega), if_neg (by omega), if_neg (by omega), if_pos h1] at hz
    obtain ⟨d, hm, hl, hs, _⟩ := many_not hz
    obtain ⟨x, t, rfl, hx, hm⟩ := more_some hm
    obtain ⟨y, t, rfl, hy, hm⟩ := more_some hm
    have hd := more_nil hm
    subst hd
    exact h ⟨x, y, t, rfl, hx, hy, hl, hs⟩
theorem next_four_no {b : UInt8} {r : List UInt8} (h0 : 240 ≤ b.toNat) (h1 : b.toNat < 248) (h : ¬ ∃ x y z t, r = x :: y :: z :: t ∧ goesOn x = true ∧ goesOn y = true ∧ goesOn z = true ∧ 65536 ≤ 64 * (64 * (64 * (b.toNat - 240) + (x.toNat - 128)) + (y.toNat - 128)) + (z.toNat - 128) ∧ isSign (64 * (64 * (64 * (b.toNat - 240) + (x.toNat - 128)) + (y.toNat - 128)) + (z.toNat - 128)) = true) : nextD (b :: r) = (0, 0) := by
  by_cases hz : (nextD (b :: r)).2 = 0
  · rw [nextD_cons, if_neg (by omega), if_neg (by omega), if_neg (by omega), if_neg (by omega), if_pos h1] at hz ⊢
    unfold many at hz ⊢
    split
    · split
      · rename_i hm hd
        rw [hm] at hz
        simp only at hz
        rw [if_pos hd] at hz
        cases hz
      · rfl
    · rfl
  · exfalso
    rw [nextD_cons, if_neg (by omega), if_neg (by omega), if_neg (by omega), if_neg (by omega), if_pos h1] at hz
    obtain ⟨d, hm, hl, hs, _⟩ := many_not hz
    obtain ⟨x, t, rfl, hx, hm⟩ := more_some hm
    obtain ⟨y, t, rfl, hy, hm⟩ := more_some hm
    obtain ⟨z, t, rfl, hz, hm⟩ := more_some hm
    have hd := more_nil hm
    subst hd
    exact h ⟨x, y, z, t, rfl, hx, hy, hz, hl, hs⟩

theorem decode_next (l : List UInt8) (hne : l ≠ []) : decodeL l = runeD l := by
  rw [decodeL_N]
  rcases l with _ | ⟨b, r⟩
  · exact absurd rfl hne
  have hb := u8_lt b
  simp only [List.length_cons, List.getD_cons_zero, List.getD_cons_succ]
  unfold decodeN
  by_cases h1 : b.toNat < 128
  · rw [if_pos h1, runeD_of (next_one h1) (by omega)]
  rw [if_neg h1]
  by_cases h2 : b.toNat < 192
  · rw [if_neg (by omega), if_neg (by omega), if_neg (by omega), runeD_no (by rw [nextD_cons, if_neg h1, if_pos h2])]
  by_cases h3 : b.toNat < 224
  · by_cases hx : ∃ x t, r = x :: t ∧ goesOn x = true
    · obtain ⟨x, t, rfl, hx⟩ := hx
      have gx := goesOn_iff.1 hx
      simp only [List.length_cons, List.getD_cons_zero]
      rw [if_pos (by omega)]
      by_cases hl : 128 ≤ 64 * (b.toNat - 192) + (x.toNat - 128)
      · rw [if_pos (by omega), runeD_of (next_two (by omega) h3 hx rfl hl) (by omega)]
        simp only [Prod.mk.injEq, and_true]
        omega
      · rw [if_neg (by omega), runeD_no (next_two_no (by omega) h3 (by rintro ⟨_, _, e, _, h⟩; cases e; exact hl h))]
    · rw [if_neg, if_neg (by omega), if_neg (by omega), runeD_no (next_two_no (by omega) h3 (by rintro ⟨x, t, e, h, _⟩; exact hx ⟨x, t, e, h⟩))]
      rintro ⟨_, hn, hq⟩
      rcases r with _ | ⟨x, t⟩
      · simp at hn
      · exact hx ⟨x, t, rfl, goes_div.2 hq⟩
  by_cases h4 : b.toNat < 240
  · rw [if_neg (by omega)]
    by_cases hx : ∃ x y t, r = x :: y :: t ∧ goesOn x = true ∧ goesOn y = true
    · obtain ⟨x, y, t, rfl, hx, hy⟩ := hx
      have gx := goesOn_iff.1 hx
      have gy := goesOn_iff.1 hy
      simp only [List.length_cons, List.getD_cons_zero, List.getD_cons_succ]
      rw [if_pos (by omega)]
      by_cases hl : 2048 ≤ 64 * (64 * (b.toNat - 224) + (x.toNat - 128)) + (y.toNat - 128) ∧ isSign (64 * (64 * (b.toNat - 224) + (x.toNat - 128)) + (y.toNat - 128)) = true
      · have hs := isSign_iff.1 hl.2
        rw [if_pos (by omega), runeD_of (next_three (by omega) h4 hx hy rfl hl.1 hl.2) (by omega)]
        simp only [Prod.mk.injEq, and_true]
        omega
      · have hl' := hl
        rw [isSign_iff] at hl'
        rw [if_neg (by omega), runeD_no (next_three_no (by omega) h4 (by rintro ⟨_, _, _, e, _, _, h⟩; cases e; exact hl h))]
    · rw [if_neg, if_neg (by omega), runeD_no (next_three_no (by omega) h4 (by rintro ⟨x, y, t, e, h, k, _⟩; exact hx ⟨x, y, t, e, h, k⟩))]
      rintro ⟨_, ⟨hn, hq⟩, hm, hp⟩
      rcases r with _ | ⟨x, _ | ⟨y, t⟩⟩
      · simp at hn
      · simp at hm
      · exact hx ⟨x, y, t, rfl, goes_div.2 hq, goes_div.2 hp⟩
  rw [if_neg (by omega), if_neg (by omega)]
  by_cases h5 : b.toNat < 248
  · by_cases hx : ∃ x y z t, r = x :: y :: z :: t ∧ goesOn x = true ∧ goesOn y = true ∧ goesOn z = true
    · obtain ⟨x, y, z, t, rfl, hx, hy, hz⟩ := hx
      have gx := goesOn_iff.1 hx
      have gy := goesOn_iff.1 hy
      have gz := goesOn_iff.1 hz
      simp only [List.length_cons, List.getD_cons_zero, List.getD_cons_succ]
      rw [if_pos (by omega)]
      by_cases hl : 65536 ≤ 64 * (64 * (64 * (b.toNat - 240) + (x.toNat - 128)) + (y.toNat - 128)) + (z.toNat - 128) ∧ isSign (64 * (64 * (64 * (b.toNat - 240) + (x.toNat - 128)) + (y.toNat - 128)) + (z.toNat - 128)) = true
      · have hs := isSign_iff.1 hl.2
        rw [if_pos (by omega), runeD_of (next_four (by omega) h5 hx hy hz rfl hl.1 hl.2) (by omega)]
        simp only [Prod.mk.injEq, and_true]
        omega
      · have hl' := hl
        rw [isSign_iff] at hl'
        rw [if_neg (by omega), runeD_no (next_four_no (by omega) h5 (by rintro ⟨_, _, _, _, e, _, _, _, h⟩; cases e; exact hl h))]
    · rw [if_neg, runeD_no (next_four_no (by omega) h5 (by rintro ⟨x, y, z, t, e, h, k, m, _⟩; exact hx ⟨x, y, z, t, e, h, k, m⟩))]
      rintro ⟨_, ⟨hn, hq⟩, ⟨hm, hp⟩, hk, ho⟩
      rcases r with _ | ⟨x, _ | ⟨y, _ | ⟨z, t⟩⟩⟩
      · simp at hn
      · simp at hm
      · simp at hk
      · exact hx ⟨x, y, z, t, rfl, goes_div.2 hq, goes_div.2 hp, goes_div.2 ho⟩
  · rw [if_neg (by omega), runeD_no (by rw [nextD_cons, if_neg h1, if_neg h2, if_neg h3, if_neg h4, if_neg h5])]

theorem decode_at_rune (s : ByteArray) (pos : Nat) (h : pos < s.size) : Utf8.decode s pos = runeD (s.data.toList.drop pos) := by
  rw [← decodeL_drop]
  refine decode_next _ fun e => ?_
  have := congrArg List.length e
  rw [List.length_drop, ← size_eq] at this
  simp at this
  omega
end Go.Proofs.YtcnijmmpkahoaaaDoor
