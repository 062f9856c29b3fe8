/-
  The law CrcTells at every input.
-/
import Derived.Test.YtbpdjohbbhblcaaTells
import Derived.Test.YtbpdjohbbhblcaaOpens
namespace Go.Proofs.Ytbpdjohbbhblcaa
open Go.RowKit

set_option maxRecDepth 10000 in
set_option maxHeartbeats 2000000 in
theorem tells_no (A1 A2 : Option Addr) (c1 c2 L n : Nat) (cs : Array Value) (ps : List (List Int)) (f : Int) (w : World) (hL : ps.length = L) (hLm : L ≤ 9223372036854775807) (hnm : n ≤ 9223372036854775807)
    (hlm : ∀ i, (ps.getD i []).length ≤ 9223372036854775807) (hp : Prts w w.heap.size A1 ps) (h : ¬ (L ≤ 10 ∧ n ≤ 500 ∧ ∀ i, i < ps.length → (ps.getD i []).length ≤ 500)) :
    Calls Try.prog 4 #[.agg cs, .slice A1 L c1, .slice A2 n c2, .int .u32 f] w (Fine w) := by
  have HL := Lib.hid hL
  have HP := Lib.hid hp
  have HLM := Lib.hid hlm
  have HH := Lib.hid h
  clear hL hp hlm h
  have hb0 : Grow w (w.alloc (.cells cs 24)) := grow_new _ _
  go_enter Try.func4, Try.ntmps4
  go_wp2_with fail
  generalize w.alloc (.cells cs 24) = w0 at *
  refine (small_any w0).mono ?_
  rintro e w1 ⟨rfl, hb1⟩
  have hw1 : Grow w w1 := hb0.trans hb1
  have HP1 := Lib.hid (HP.out.grow hw1)
  clear hb0 hb1
  go_wp2
  go_loopw [10, 11] (fun v i wr => ∃ j q : Nat, j ≤ L ∧ j ≤ 10 ∧ i = .int .i64 j ∧ v = .int .i64 q ∧ q ≤ 500 * j ∧ (∀ l, l < j → (ps.getD l []).length ≤ 500) ∧ wr = w1)
    (fun _ i _ => 10 - (intOf i).toNat)
  case atStart => exact ⟨0, 0, Nat.zero_le _, Nat.zero_le _, rfl, rfl, Nat.zero_le _, fun l hl => absurd hl (Nat.not_lt_zero _), rfl⟩
  case round =>
    obtain ⟨j, q, hj, hj10, rfl, rfl, hq, hall, rfl⟩ := hrel
    have HA := Lib.hid hall
    clear hall
    by_cases hlt : j < L
    · have t1 : decide ((j : Int) < (L : Int)) = true := by simp; omega
      by_cases h10 : j < 10
      · have t2 : decide ((j : Int) < 10) = true := by simp; omega
        obtain ⟨b, off, rfl, hb, hc⟩ := HP1.out (by rw [HL.out]; omega)
        obtain ⟨Ai, ci, hcell, _, _⟩ := hc j (by rw [HL.out]; exact hlt)
        have hm := HLM.out j
        obtain ⟨pl, hpl⟩ : ∃ l, (ps.getD j []).length = l := ⟨_, rfl⟩
        rw [hpl] at hcell hm
        have HPL := Lib.hid hpl
        clear hc hpl
        by_cases h5 : pl ≤ 500
        · have t3 : decide ((500 : Int) < (pl : Int)) = false := by simp; omega
          go_wp2
          go_roundw
          case rel =>
            refine ⟨j + 1, q + pl, by omega, by omega, by go_num, by simp, by omega, fun l hl => ?_, trivial⟩
            by_cases e : l = j
            · rw [e, HPL.out]; exact h5
            · exact HA.out l (by omega)
          case measure => simp [intOf]; omega
        · have t3 : decide ((500 : Int) < (pl : Int)) = true := by simp; omega
          go_wp2
          go_ret
          exact ⟨rfl, hw1⟩
      · have t2 : decide ((j : Int) < 10) = false := by simp; omega
        have e1 : decide ((10 : Int) < (L : Int)) = true := by simp; omega
        go_wp2
        go_ret
        exact ⟨rfl, hw1⟩
    · have t1 : decide ((j : Int) < (L : Int)) = false := by simp; omega
      have e1 : decide ((10 : Int) < (L : Int)) = false := by simp; omega
      have e2 : decide ((500 : Int) < (n : Int)) = true := by
        simp
        apply Classical.byContradiction
        intro hn
        exact HH.out ⟨by omega, by omega, fun i hi => HA.out i (by rw [HL.out] at hi; omega)⟩
      go_wp2
      go_ret
      exact ⟨rfl, hw1⟩

theorem tells_walk (A1 A2 : Option Addr) (c1 c2 L n : Nat) (cs : Array Value) (T : Nat → Nat) (ps : List (List Int)) (bs : List Int) (f : Int) (w : World) (hT : IsTab cs T) (hps : IsParts w A1 L ps) (hn : bs.length = n) (hnm : n ≤ 9223372036854775807) (hcap : n ≤ c2)
    (hf : 0 ≤ f ∧ f ≤ 4294967295) (hb : Byt bs) (hr : Nums .u8 w w.heap.size A2 bs) : Calls Try.prog 4 #[.agg cs, .slice A1 L c1, .slice A2 n c2, .int .u32 f] w (Fine w) := by
  obtain ⟨hL, hLm, hp, hall⟩ := hps
  by_cases h : L ≤ 10 ∧ n ≤ 500 ∧ ∀ i, i < ps.length → (ps.getD i []).length ≤ 500
  · obtain ⟨F, rfl⟩ := Int.eq_ofNat_of_zero_le hf.1
    exact tells_yes A1 A2 c1 c2 L n _ _ cs T ps _ bs F w hT hL h.1 hn h.2.1 hcap h.2.2 (fun i => (hall i).2) rfl rfl rfl (by omega) hb hr hp
  · exact tells_no A1 A2 c1 c2 L n cs ps f w hL hLm hnm (fun i => (hall i).1) hp h
end Go.Proofs.Ytbpdjohbbhblcaa
