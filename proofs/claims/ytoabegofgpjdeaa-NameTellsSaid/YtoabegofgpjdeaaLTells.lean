/-
  NameTells comes to true, whatever it is called with.
-/
import Derived.Test.YtoabegofgpjdeaaRTakes
import Derived.Test.YtoabegofgpjdeaaRUnlikes
namespace Go.Proofs.Ytoabegofgpjdeaa
open Go.RowKit Go.Lib
set_option linter.unusedVariables false
set_option linter.unusedSimpArgs false

set_option maxRecDepth 10000 in
set_option maxHeartbeats 3200000 in
theorem ltells_walk (l : List UInt8) (A : Option Addr) (n c : Nat) (ls : List (List UInt8)) (w : World) (hl0 : l.length ≤ 9223372036854775807) (hn : ls.length = n) (hn63 : n ≤ 9223372036854775807)
    (hr : Strs w w.heap.size A ls) (hs : ∀ s ∈ ls, s.length ≤ 9223372036854775807) :
    Calls Try.prog 3 #[.string ⟨l.toArray⟩, .slice A n c] w (Fine w) := by
  have HR := Lib.hid hr
  have HS := Lib.hid hs
  have HN := Lib.hid hn
  clear hr hs hn
  have hsl := str_size l
  go_enter Try.func3, Try.ntmps3
  go_wp2_with fail
  refine (small_any w).mono ?_
  rintro x w1 ⟨rfl, hg⟩
  have HG1 := Lib.hid hg
  have HR1 := Lib.hid (HR.out.grow hg)
  clear hg
  go_wp2
  go_loopg [6, 7] 30 (fun g s6 s7 wr => ∃ i q : Nat, i ≤ n ∧ i ≤ 30 ∧ g = 30 - i ∧ s6 = .int .i64 q ∧ s7 = .int .i64 i ∧ q ≤ 100 * i ∧ w1 = wr)
  case atStart => exact ⟨0, 0, Nat.zero_le _, Nat.zero_le _, rfl, rfl, rfl, Nat.le_refl _, rfl⟩
  case round =>
    obtain ⟨i, q, hi, hi30, rfl, rfl, rfl, hq, rfl⟩ := hrel
    by_cases hlt : i < n ∧ i < 30
    · obtain ⟨hlt, hl30⟩ := hlt
      have h30i : ((i : Nat) : Int) < 30 := by omega
      obtain ⟨b, off, rfl, hb, hcl⟩ := HR1.out (by rw [HN.out]; omega)
      have hc := hcl i (by rw [HN.out]; exact hlt)
      clear hcl
      generalize ls.getD i [] = s at hc
      have hss := str_size s
      by_cases h100 : 100 < s.length
      · have hi : (100 : Int) < ((s.length : Nat) : Int) := by omega
        go_wp2
        go_ret
        exact ⟨rfl, HG1.out⟩
      · have hi : ¬ (100 : Int) < ((s.length : Nat) : Int) := by omega
        go_wp2
        go_roundg (30 - (i + 1))
        case rel => exact ⟨i + 1, q + s.length, by omega, by omega, rfl, by go_num, by go_num, by omega, rfl⟩
        case measure => omega
    · have hend : i = n ∨ i = 30 := by omega
      clear hlt
      by_cases h300 : 300 < l.length
      · have h300i : (300 : Int) < ((l.length : Nat) : Int) := by omega
        rcases hend with rfl | rfl
        · go_wp2
          go_ret
          exact ⟨rfl, HG1.out⟩
        · by_cases h30n : 30 < n
          · have h30i : (30 : Int) < ((n : Nat) : Int) := by omega
            go_wp2
            go_ret
            exact ⟨rfl, HG1.out⟩
          · obtain rfl : n = 30 := by omega
            go_wp2
            go_ret
            exact ⟨rfl, HG1.out⟩
      have h300i : ¬ (300 : Int) < ((l.length : Nat) : Int) := by omega
      by_cases hn30 : 30 < n
      · have hn30i : (30 : Int) < ((n : Nat) : Int) := by omega
        obtain rfl : i = 30 := by omega
        go_wp2
        go_ret
        exact ⟨rfl, HG1.out⟩
      have hn30i : ¬ (30 : Int) < ((n : Nat) : Int) := by omega
      obtain rfl : n = i := by omega
      have hqi : ¬ (3000 : Int) < ((q : Nat) : Int) := by omega
      have HT := Lib.hid (fun W => take_any l W (by omega))
      have HTR := Lib.hid (fun W => rtake_any l W (by omega))
      have HRI := Lib.hid (fun W => right_says (l := l) rfl W (by omega))
      have HRR := Lib.hid (fun W => rright_any l W (by omega))
      have HSY := Lib.hid (fun W => system_says (l := l) rfl W)
      have HSR := Lib.hid (fun W => rsystem_any l W)
      have HU := Lib.hid (fun W h => unlike_says (ls := ls) rfl (A := A) (c := c) W HN.out (by omega) h HS.out)
      have HUR := Lib.hid (fun W h => runlike_any A n c ls W HN.out (by omega) h)
      generalize l.take (takenD l) = a at HT HTR
      generalize l.drop (takenD l) = b at HT HTR
      generalize rightD l = β at HRI HRR
      generalize sysD l = γ at HSY HSR
      generalize unlB ls = δ at HU HUR
      go_wp2_with fail
      refine (HT.out w1).mono ?_
      rintro e w2 ⟨rfl, hg⟩
      have HG2 := Lib.hid hg
      clear hg HT
      go_wp2_with fail
      refine (HTR.out w2).mono ?_
      rintro e w3 ⟨rfl, hg⟩
      have HG3 := Lib.hid (HG2.out.trans hg)
      clear hg HTR
      go_wp2_with fail
      refine (HRI.out w3).mono ?_
      rintro e w4 ⟨rfl, hg⟩
      have HG4 := Lib.hid (HG3.out.trans hg)
      clear hg HRI
      go_wp2_with fail
      refine (HRR.out w4).mono ?_
      rintro e w5 ⟨rfl, hg⟩
      have HG5 := Lib.hid (HG4.out.trans hg)
      clear hg HRR
      have hβ : (β == β) = true := by cases β <;> rfl
      go_wp2_with fail
      refine (HSY.out w5).mono ?_
      rintro e w6 ⟨rfl, hg⟩
      have HG6 := Lib.hid (HG5.out.trans hg)
      clear hg HSY
      go_wp2_with fail
      refine (HSR.out w6).mono ?_
      rintro e w7 ⟨rfl, hg⟩
      have HG7 := Lib.hid (HG6.out.trans hg)
      clear hg HSR
      have hγ : (γ == γ) = true := by cases γ <;> rfl
      go_wp2_with fail
      refine (HU.out w7 (HR1.out.grow HG7.out)).mono ?_
      rintro e w8 ⟨rfl, hg⟩
      have HG8 := Lib.hid (HG7.out.trans hg)
      clear hg HU
      go_wp2_with fail
      refine (HUR.out w8 (HR1.out.grow HG8.out)).mono ?_
      rintro e w9 ⟨rfl, hg⟩
      have HG9 := Lib.hid (HG1.out.trans (HG8.out.trans hg))
      clear hg HUR
      have hδ : (δ == δ) = true := by cases δ <;> rfl
      go_wp2
      go_ret
      exact ⟨rfl, HG9.out⟩
end Go.Proofs.Ytoabegofgpjdeaa
