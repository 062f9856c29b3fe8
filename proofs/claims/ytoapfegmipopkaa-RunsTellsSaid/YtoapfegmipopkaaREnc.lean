/-
  What the document's own Encode comes to.
-/
import Derived.Test.YtoapfegmipopkaaRPut
namespace Go.Proofs.Ytoapfegmipopkaa
open Go.RowKit

theorem bef_like {ys : List Int} {a : Int} (h : 3 ≤ lik a ys) : bef ys = 0 := by
  have hs := lik_split a ys
  obtain ⟨j, hj⟩ : ∃ j, lik a ys = j + 3 := ⟨lik a ys - 3, by omega⟩
  rw [hj] at hs
  rw [hs]
  exact bef_rep a j _
theorem bef_two {ys : List Int} {m : Nat} (h : ys ≠ []) (hm : lik (ys.getD 0 0) ys = m) (h3 : m < 3) : 1 ≤ m ∧ bef ys = m + bef (ys.drop m) := by
  have h1 := lik_pos ys h
  have he := lik_end (ys.getD 0 0) ys
  have hs := lik_split (ys.getD 0 0) ys
  rw [hm] at h1 he hs
  refine ⟨h1, ?_⟩
  generalize ys.getD 0 0 = a at *
  generalize ys.drop m = zs at *
  have : m = 1 ∨ m = 2 := by omega
  rcases this with rfl | rfl
  · rw [hs]
    show bef (a :: zs) = _
    rw [bef, if_neg]
    · omega
    · intro e
      cases zs with
      | nil => simp at e
      | cons z zs =>
        simp at e he
        exact he e.1
  · rw [hs]
    show bef (a :: a :: zs) = _
    rw [bef, if_neg, bef, if_neg]
    · omega
    · intro e
      cases zs with
      | nil => simp at e
      | cons z zs =>
        simp at e he
        exact he e.1
    · intro e
      cases zs with
      | nil => simp at e
      | cons z zs =>
        simp at e he
        exact he e

set_option maxRecDepth 10000 in
set_option maxHeartbeats 800000 in
theorem alike_any (A : Option Addr) (n cap k : Nat) (xs : List Int) (w : World) (hn : xs.length = n) (hk : k < n) (hl : n ≤ 1000000000000) (hr : Nums .u8 w w.heap.size A xs) :
    Calls Try.prog 23 #[.slice A n cap, .int .i64 (k : Nat)] w fun e w' => e = .returned (.int .i64 (lik ((xs.drop k).getD 0 0) (xs.drop k) : Nat)) ∧ Grow w w' := by
  obtain ⟨a, ha⟩ : ∃ a, xs.getD k 0 = a := ⟨_, rfl⟩
  have hda : (xs.drop k).getD 0 0 = a := by rw [← ha]; simp
  rw [hda]
  have HR := Lib.hid hr
  have HN := Lib.hid hn
  have HA := Lib.hid ha
  obtain ⟨b, off, rfl, _, _⟩ := hr (by omega)
  clear hr hn ha hda
  go_enter Try.func23, Try.ntmps23
  go_wp2
  go_loopw [5] (fun i wr => ∃ j : Nat, k + j ≤ n ∧ i = .int .i64 j ∧ lik a (xs.drop k) = j + lik a (xs.drop (k + j)) ∧ Grow w wr)
    (fun i _ => n - (intOf i).toNat)
  case atStart => exact ⟨0, by omega, rfl, by simp, Grow.refl _⟩
  case round =>
    obtain ⟨j, hj, rfl, hq, hg⟩ := hrel
    have hN := HR.out.grow hg
    obtain ⟨b', off', hb', _, hc⟩ := hN (by rw [HN.out]; omega)
    cases hb'
    have hc0 := hc k (by rw [HN.out]; omega)
    rw [HA.out] at hc0
    have HG := Lib.hid hg
    clear hg hN
    have hw : IntKind.i64.wrap ((k : Int) + (j : Int)) = (k : Int) + (j : Int) := by rw [IntKind.wrap_i64]; omega
    have hki : (k : Int) < (n : Int) := by omega
    by_cases hlt : k + j < n
    · have hck := hc (k + j) (by rw [HN.out]; omega)
      have hla := lik_at (xs := xs) (a := a) (k := k + j) (by rw [HN.out]; omega)
      clear hc
      generalize xs.getD (k + j) 0 = c at *
      have hp : 0 ≤ (k : Int) + (j : Int) := by omega
      have ht : ((k : Int) + (j : Int)).toNat = k + j := by omega
      have hkj : (k : Int) + (j : Int) < (n : Int) := by omega
      by_cases hca : c = a
      · subst hca
        rw [if_pos rfl] at hla
        have HQ := Lib.hid (show lik c (xs.drop k) = (j + 1) + lik c (xs.drop (k + (j + 1))) by rw [← Nat.add_assoc k j 1]; omega)
        clear hq hla
        go_wp2_with fail
        go_quiet (fail)
        clear hw ht hp
        go_wp2
        go_roundw
        case rel => exact ⟨j + 1, by omega, by go_num, HQ.out, HG.out.drewN _⟩
        case measure => simp [intOf]; omega
      · rw [if_neg hca] at hla
        have HQ := Lib.hid (show lik a (xs.drop k) = j by omega)
        have hne : (c == a) = false := by simpa using hca
        clear hq hla
        go_wp2_with fail
        go_quiet (fail)
        go_wp2
        go_ret
        exact ⟨by rw [HQ.out]; rfl, HG.out.drewN _⟩
    · have e : k + j = n := by omega
      have HQ := Lib.hid (show lik a (xs.drop k) = j by rw [List.drop_of_length_le (show xs.length ≤ k + j by rw [HN.out]; omega)] at hq; simpa [lik] using hq)
      have hkj : decide ((k : Int) + (j : Int) < (n : Int)) = false := by simp; omega
      clear hq hc
      go_wp2_with fail
      go_quiet (fail)
      go_wp2
      go_ret
      exact ⟨by rw [HQ.out]; rfl, HG.out.drewN _⟩

theorem rput_one (X : Int) (x D : Nat) (w : World) (hX : X = (x : Int)) (hx : x < 18446744073709551616) (hD : (digs x).length = D) :
    Calls Try.prog 24 #[.slice none 0 0, .slice (some ⟨w.heap.size, 0, none⟩) 1 1] (w.alloc (.cells #[.int .u64 X] 29)) fun e w' =>
      ∃ A c, e = .returned (.slice A D c) ∧ (A = none → c = 0) ∧ Nums .u8 w' w'.heap.size A (digs x) ∧ Grow w w' := by
  subst hX
  have h := rput_any none (some ⟨w.heap.size, 0, none⟩) 0 1 0 1 [] [(x : Int)] (w.alloc (.cells #[.int .u64 (x : Int)] 29)) rfl rfl (by decide) (by decide) (fun _ => rfl) (fun y hy => by simp at hy; omega) Nums.none_ (lit_nums w .u64 29 [(x : Int)])
  refine h.mono ?_
  rintro e w' ⟨A, c, rfl, hA, hn, hg⟩
  rw [List.nil_append, flat_one, Int.toNat_natCast] at hn
  exact ⟨A, c, by rw [List.nil_append, flat_one, Int.toNat_natCast, hD], hA, hn, grow_alloc' hg⟩
end Go.Proofs.Ytoapfegmipopkaa
