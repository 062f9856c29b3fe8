/-
  The law RunsLong at every input.
-/
import Derived.Test.YtoapfegmipopkaaSmall
namespace Go.Proofs.Ytoapfegmipopkaa
open Go.RowKit

theorem long_math : ∀ (k : Nat) (xs : List Int), xs.length ≤ k → xs.length ≤ 1000 → (enc xs).length ≤ xs.length + 1 + xs.length / 64 ∧ (bef xs = 0 → (enc xs).length ≤ xs.length + xs.length / 64) := by
  intro k
  induction k with
  | zero =>
    intro xs h _
    have : xs = [] := List.eq_nil_of_length_eq_zero (by omega)
    subst this
    simp [enc_nil]
  | succ k ih =>
    intro xs h hb
    rcases enc_cases xs with rfl | ⟨c, m, ys, rfl, h1⟩ | ⟨l, ys, rfl, h1, h2, h3⟩
    · simp [enc_nil]
    · simp only [List.length_append, List.length_replicate] at h hb
      have h4 := (ih ys (by omega) (by omega)).1
      have h5 := digs_small (v := 2 * m + 1) (by omega)
      rw [enc_run c m ys h1]
      simp only [List.length_append, List.length_replicate, List.length_cons]
      split at h5
      · exact ⟨by omega, fun _ => by omega⟩
      · exact ⟨by omega, fun _ => by omega⟩
    · have hl := List.length_pos_iff.2 h1
      simp only [List.length_append] at h hb
      have h4 := (ih ys (by omega) (by omega)).2 h3
      have h5 := digs_small (v := 2 * (l.length - 1)) (by omega)
      have h6 : bef (l ++ ys) ≠ 0 := by omega
      rw [enc_oth l ys h1 h2]
      refine ⟨?_, fun h => absurd h h6⟩
      simp only [List.length_append]
      split at h5
      · omega
      · omega
theorem enc_zero (xs : List Int) : (enc xs).length = 0 ↔ xs.length = 0 := by
  constructor
  · intro h
    have := enc_grps _ xs (Nat.le_refl _)
    rw [List.eq_nil_of_length_eq_zero h] at this
    rw [grps_nil this]
    rfl
  · intro h
    rw [List.eq_nil_of_length_eq_zero h, enc_nil]
    rfl

set_option maxRecDepth 10000 in
set_option maxHeartbeats 800000 in
theorem long_walk (A : Option Addr) (n c : Nat) (bs : List Int) (w : World) (h1 : bs.length = n) (hn : n ≤ 9223372036854775807) (hnc : n ≤ c) (hc : A = none → c = 0) (b1 : Byt bs) (r1 : Nums .u8 w w.heap.size A bs) :
    Calls Try.prog 8 #[.slice A n c] w (Fine w) := by
  have HS := Lib.hid (small_any w)
  by_cases h : n ≤ 1000
  · obtain ⟨E, hE⟩ : ∃ E, (enc bs).length = E := ⟨_, rfl⟩
    have hm := (long_math _ bs (Nat.le_refl _) (by omega)).1
    have hz := enc_zero bs
    rw [hE, h1] at hm hz
    have HEN := Lib.hid (fun W G => (encode_any A n c bs W h1 (by omega) hnc hc b1 G).mono fun _ _ x => x.bytes hE)
    have HR := Lib.hid r1
    clear h1 hc b1 r1 hE hn
    have hEl : E ≤ 2000 := by omega
    have heq : ((E : Int) == 0) = ((n : Int) == 0) := by
      rw [Bool.eq_iff_iff]
      simp
      omega
    clear hz
    go_enter Try.func8, Try.ntmps8
    go_wp2_with fail
    refine (HS.out).mono ?_
    rintro e w1 ⟨rfl, hb1⟩
    have HB1 := Lib.hid hb1
    clear hb1
    go_wp2_with fail
    refine (HEN.out w1 (HR.out.grow HB1.out)).mono ?_
    rintro e w2 ⟨A2, c2, rfl, -, -, -, hb2⟩
    have HB2 := Lib.hid (HB1.out.trans hb2)
    have hle : (E : Int) ≤ (n : Int) + 1 + (n : Int) / 64 := by omega
    clear hb2 hm
    go_wp2
    go_ret
    exact ⟨rfl, HB2.out⟩
  · have hn' : 1000 < n := by omega
    clear h1 hc b1 r1 hnc
    go_enter Try.func8, Try.ntmps8
    go_wp2_with fail
    refine (HS.out).mono ?_
    rintro e w1 ⟨rfl, hb1⟩
    go_wp2
    go_ret
    exact ⟨rfl, hb1⟩
end Go.Proofs.Ytoapfegmipopkaa
