/-
  What array.isBit, isSign and all come to, called with any numbers.
-/
import Derived.Test.YtfdlngcaopcaoaaNdMem
import Derived.Test.YtfdlngcaopcaoaaCounts
import Derived.Test.YtfdlngcaopcaoaaNorms
namespace Go.Proofs.Ytfdlngcaopcaoaa
open Go.RowKit Go.Lib
set_option linter.unusedSimpArgs false
set_option linter.unusedVariables false

theorem bit_any (x : Int) (w : World) : Calls Try.prog 60 #[.int .i64 x] w (Gives (.bool (bitB x)) w) := by
  by_cases h0 : x = 0
  · subst h0
    go_enter Try.func60, Try.ntmps60
    go_wp2
    go_ret
    exact ⟨rfl, rfl⟩
  · have h0' : (x == 0) = false := by simpa using h0
    have e : bitB x = (x == 1) := by simp [bitB, h0']
    rw [e]
    go_enter Try.func60, Try.ntmps60
    go_wp2
    go_ret
    exact ⟨rfl, rfl⟩
theorem sign_any (x : Int) (w : World) : Calls Try.prog 61 #[.int .i64 x] w (Gives (.bool (signB x)) w) := by
  by_cases h0 : x < 0
  · have e : signB x = false := by simp [signB]; omega
    rw [e]
    have h0' : ¬ 0 ≤ x := by omega
    go_enter Try.func61, Try.ntmps61
    go_wp2
    go_ret
    exact ⟨rfl, rfl⟩
  have h0' : 0 ≤ x := by omega
  by_cases h1 : 1114111 < x
  · have e : signB x = false := by simp [signB]; omega
    rw [e]
    have h1' : ¬ x ≤ 1114111 := by omega
    clear h0 e
    go_enter Try.func61, Try.ntmps61
    go_wp2
    go_ret
    exact ⟨rfl, rfl⟩
  have h1' : x ≤ 1114111 := by omega
  by_cases h2 : x < 55296
  · have e : signB x = true := by simp [signB]; omega
    rw [e]
    clear h0 h1 e
    go_enter Try.func61, Try.ntmps61
    go_wp2
    go_ret
    exact ⟨rfl, rfl⟩
  by_cases h3 : 57343 < x
  · have e : signB x = true := by simp [signB]; omega
    rw [e]
    clear h0 h1 e
    go_enter Try.func61, Try.ntmps61
    go_wp2
    go_ret
    exact ⟨rfl, rfl⟩
  · have e : signB x = false := by simp [signB]; omega
    rw [e]
    clear h0 h1 e
    go_enter Try.func61, Try.ntmps61
    go_wp2
    go_ret
    exact ⟨rfl, rfl⟩

set_option maxRecDepth 10000 in
set_option maxHeartbeats 800000 in
theorem allbit_any (A : Option Addr) (n c : Nat) (xs : List Int) (w : World) (hn : xs.length = n) (hm : n ≤ 9223372036854775807) (hr : Nums .i64 w w.heap.size A xs) :
    Calls Try.prog 59 #[.slice A n c, .func (.func 60) #[] #[]] w (Gives (.bool (xs.all bitB)) w) := by
  have HR := Lib.hid hr
  have HN := Lib.hid hn
  clear hr hn
  go_enter Try.func59, Try.ntmps59
  go_wp2
  go_loopg [9] n (fun g s8 wr => ∃ k : Nat, k ≤ n ∧ g = n - k ∧ s8 = .int .i64 k ∧ Hid ((xs.drop k).all bitB = xs.all bitB) ∧ w = wr)
  case atStart => exact ⟨0, Nat.zero_le _, rfl, rfl, Lib.hid rfl, rfl⟩
  case round =>
    obtain ⟨k, hk, rfl, rfl, HA, rfl⟩ := hrel
    by_cases hlt : k < n
    · have hkl : k < xs.length := by rw [HN.out]; exact hlt
      obtain ⟨b, off, rfl, hb, hcl⟩ := HR.out (by omega)
      have hc := hcl k hkl
      have HT := Lib.hid (fun h => all_drop (p := bitB) hkl h)
      have HF := Lib.hid (fun h => all_fails (p := bitB) hkl h)
      clear hcl hkl
      generalize xs.getD k 0 = x at hc HT HF
      cases hx : bitB x with
      | true =>
        have HT' := Lib.hid (HT.out hx)
        have HB := Lib.hid (bit_any x w)
        rw [hx] at HB
        clear hx HT HF
        go_wp2_with (go_at_call 60; refine (HB.out).mono ?_; rintro e w2 ⟨rfl, rfl⟩)
        go_roundg (n - (k + 1))
        case rel => exact ⟨k + 1, by omega, rfl, by go_num, Lib.hid (HT'.out.symm.trans HA.out), rfl⟩
        case measure => omega
      | false =>
        have HF' := Lib.hid (HF.out hx)
        have HB := Lib.hid (bit_any x w)
        rw [hx] at HB
        clear hx HT HF
        go_wp2_with (go_at_call 60; refine (HB.out).mono ?_; rintro e w2 ⟨rfl, rfl⟩)
        go_ret
        exact ⟨by rw [← HA.out, HF'.out]; rfl, rfl⟩
    · obtain rfl : k = n := by omega
      have HE : Hid (xs.all bitB = true) := Lib.hid (by rw [← HA.out, ← HN.out, List.drop_length]; rfl)
      go_wp2
      go_ret
      exact ⟨by rw [HE.out]; rfl, rfl⟩

set_option maxRecDepth 10000 in
set_option maxHeartbeats 800000 in
theorem allsign_any (A : Option Addr) (n c : Nat) (xs : List Int) (w : World) (hn : xs.length = n) (hm : n ≤ 9223372036854775807) (hr : Nums .i64 w w.heap.size A xs) :
    Calls Try.prog 59 #[.slice A n c, .func (.func 61) #[] #[]] w (Gives (.bool (xs.all signB)) w) := by
  have HR := Lib.hid hr
  have HN := Lib.hid hn
  clear hr hn
  go_enter Try.func59, Try.ntmps59
  go_wp2
  go_loopg [9] n (fun g s8 wr => ∃ k : Nat, k ≤ n ∧ g = n - k ∧ s8 = .int .i64 k ∧ Hid ((xs.drop k).all signB = xs.all signB) ∧ w = wr)
  case atStart => exact ⟨0, Nat.zero_le _, rfl, rfl, Lib.hid rfl, rfl⟩
  case round =>
    obtain ⟨k, hk, rfl, rfl, HA, rfl⟩ := hrel
    by_cases hlt : k < n
    · have hkl : k < xs.length := by rw [HN.out]; exact hlt
      obtain ⟨b, off, rfl, hb, hcl⟩ := HR.out (by omega)
      have hc := hcl k hkl
      have HT := Lib.hid (fun h => all_drop (p := signB) hkl h)
      have HF := Lib.hid (fun h => all_fails (p := signB) hkl h)
      clear hcl hkl
      generalize xs.getD k 0 = x at hc HT HF
      cases hx : signB x with
      | true =>
        have HT' := Lib.hid (HT.out hx)
        have HB := Lib.hid (sign_any x w)
        rw [hx] at HB
        clear hx HT HF
        go_wp2_with (go_at_call 61; refine (HB.out).mono ?_; rintro e w2 ⟨rfl, rfl⟩)
        go_roundg (n - (k + 1))
        case rel => exact ⟨k + 1, by omega, rfl, by go_num, Lib.hid (HT'.out.symm.trans HA.out), rfl⟩
        case measure => omega
      | false =>
        have HF' := Lib.hid (HF.out hx)
        have HB := Lib.hid (sign_any x w)
        rw [hx] at HB
        clear hx HT HF
        go_wp2_with (go_at_call 61; refine (HB.out).mono ?_; rintro e w2 ⟨rfl, rfl⟩)
        go_ret
        exact ⟨by rw [← HA.out, HF'.out]; rfl, rfl⟩
    · obtain rfl : k = n := by omega
      have HE : Hid (xs.all signB = true) := Lib.hid (by rw [← HA.out, ← HN.out, List.drop_length]; rfl)
      go_wp2
      go_ret
      exact ⟨by rw [HE.out]; rfl, rfl⟩

theorem alld_drop {p : Int × Int → Bool} {xs : List (Int × Int)} {k : Nat} (h : k < xs.length) (hx : p (xs.getD k (0, 0)) = true) : (xs.drop k).all p = (xs.drop (k + 1)).all p := by
  rw [drop_at (0, 0) h, List.all_cons, hx, Bool.true_and]
theorem alld_fails {p : Int × Int → Bool} {xs : List (Int × Int)} {k : Nat} (h : k < xs.length) (hx : p (xs.getD k (0, 0)) = false) : (xs.drop k).all p = false := by
  rw [drop_at (0, 0) h, List.all_cons, hx, Bool.false_and]
set_option maxRecDepth 10000 in
set_option maxHeartbeats 800000 in
theorem alldec_any (A : Option Addr) (n c : Nat) (xs : List (Int × Int)) (w : World) (hn : xs.length = n) (hm : n ≤ 9223372036854775807) (hi : ∀ x ∈ xs, In x.1 ∧ In x.2) (hr : Decs w w.heap.size A xs) :
    Calls Try.prog 62 #[.slice A n c, .func (.func 63) #[] #[]] w (fun e w' => e = .returned (.bool (xs.all decB)) ∧ Grow w w') := by
  have HR := Lib.hid hr
  have HN := Lib.hid hn
  have HI := Lib.hid hi
  clear hr hn hi
  go_enter Try.func62, Try.ntmps62
  go_wp2
  go_loopg [9] n (fun g s8 wr => ∃ k : Nat, k ≤ n ∧ g = n - k ∧ s8 = .int .i64 k ∧ Hid ((xs.drop k).all decB = xs.all decB) ∧ Hid (Grow w wr))
  case atStart => exact ⟨0, Nat.zero_le _, rfl, rfl, Lib.hid rfl, Lib.hid (Grow.refl _)⟩
  case round =>
    obtain ⟨k, hk, rfl, rfl, HA, HG⟩ := hrel
    by_cases hlt : k < n
    · have hkl : k < xs.length := by rw [HN.out]; exact hlt
      obtain ⟨b, off, rfl, hb, hcl⟩ := HR.out.grow HG.out (by omega)
      obtain ⟨hc1, hc2⟩ := hcl k hkl
      have HT := Lib.hid (fun h => alld_drop (p := decB) hkl h)
      have HF := Lib.hid (fun h => alld_fails (p := decB) hkl h)
      have hin := in_at HI.out k
      clear hcl hkl hb
      generalize xs.getD k (0, 0) = x at hc1 hc2 HT HF hin
      obtain ⟨x1, x2⟩ := x
      dsimp only at hc1 hc2 hin
      cases hx : decB (x1, x2) with
      | true =>
        have HT' := Lib.hid (HT.out hx)
        have HB := Lib.hid (fun W => right_any x1 x2 W hin.1 hin.2)
        rw [show rightD x1 x2 = true from hx] at HB
        clear hx HT HF hin
        go_wp2_with (go_at_call 63; refine (HB.out _).mono ?_; rintro e w2 ⟨rfl, hw2⟩)
        go_roundg (n - (k + 1))
        case rel => exact ⟨k + 1, by omega, rfl, by go_num, Lib.hid (HT'.out.symm.trans HA.out), Lib.hid ((HG.out.trans (grow_new _ _)).trans hw2)⟩
        case measure => omega
      | false =>
        have HF' := Lib.hid (HF.out hx)
        have HB := Lib.hid (fun W => right_any x1 x2 W hin.1 hin.2)
        rw [show rightD x1 x2 = false from hx] at HB
        clear hx HT HF hin
        go_wp2_with (go_at_call 63; refine (HB.out _).mono ?_; rintro e w2 ⟨rfl, hw2⟩)
        go_ret
        exact ⟨by rw [← HA.out, HF'.out]; rfl, (HG.out.trans (grow_new _ _)).trans hw2⟩
    · obtain rfl : k = n := by omega
      have HE : Hid (xs.all decB = true) := Lib.hid (by rw [← HA.out, ← HN.out, List.drop_length]; rfl)
      go_wp2
      go_ret
      exact ⟨by rw [HE.out]; rfl, HG.out⟩
end Go.Proofs.Ytfdlngcaopcaoaa
