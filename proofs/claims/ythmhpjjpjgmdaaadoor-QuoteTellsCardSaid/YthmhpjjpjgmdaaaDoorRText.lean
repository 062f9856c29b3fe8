/-
  What the document's own Text comes to, called with any numbers.
-/
import Derived.Test.YthmhpjjpjgmdaaaDoorRBytes
namespace Go.Proofs.YthmhpjjpjgmdaaaDoor
open Go.RowKit Go.Lib
set_option linter.unusedSimpArgs false
set_option linter.unusedVariables false

set_option maxRecDepth 10000 in
set_option maxHeartbeats 1600000 in
theorem rtext_any (A : Option Addr) (n c : Nat) (xs : List Int) (w : World) (hn : xs.length = n) (hnb : n ≤ 100000) (hr : Nums .i64 w w.heap.size A xs) (hi : ∀ x ∈ xs, In x) :
    Calls Tryd.prog 10 #[.slice A n c] w (TextP (textQ xs) (xs.all signZ) w) := by
  have HN := Lib.hid hn
  have HR := Lib.hid hr
  have HIN := Lib.hid hi
  clear hn hr hi
  go_enter Tryd.func10, Tryd.ntmps10
  go_wp2
  go_loopg [4, 5] n (fun g s4 s5 wr => ∃ (k : Nat) (S : List UInt8), k ≤ n ∧ g = n - k ∧ s4 = .string ⟨S.toArray⟩ ∧ s5 = .int .i64 k ∧ Hid ((xs.take k).all signZ = true) ∧ Hid (39 :: qT (natsZ (xs.take k)) = S) ∧ Hid (Grow w wr))
  case atStart => exact ⟨0, [39], Nat.zero_le _, rfl, rfl, rfl, Lib.hid rfl, Lib.hid rfl, Lib.hid (Grow.refl _)⟩
  case round =>
    obtain ⟨k, S, hk, rfl, rfl, rfl, HS, HQ, HG⟩ := hrel
    have hSl : S.length ≤ 1000000 := by
      have h1 := qT_le (natsZ (xs.take k))
      have h2 := nats_take xs k
      rw [← HQ.out, List.length_cons]
      omega
    by_cases hlt : k < n
    · have hkl : k < xs.length := by rw [HN.out]; exact hlt
      obtain ⟨b, off, rfl, hb, hcl⟩ := (HR.out.grow HG.out) (by omega)
      have hck := hcl k hkl
      have HQN := Lib.hid (qT_step hkl)
      have HA := Lib.hid (all_step hkl HS.out)
      have HX := Lib.hid (all_not (xs := xs) hkl)
      have hin : In (xs.getD k 0) := by
        have e : xs.getD k 0 = xs[k] := by simp [List.getD, hkl]
        rw [e]
        exact HIN.out _ (List.getElem_mem hkl)
      obtain ⟨x, hx⟩ : ∃ x, xs.getD k 0 = x := ⟨_, rfl⟩
      rw [hx] at hck HQN HA HX hin
      have HB := Lib.hid (fun W => rbytesZ_any x W hin)
      have hwk : IntKind.i64.wrap (((k : Nat) : Int) + 1) = ((k : Nat) : Int) + 1 := by rw [IntKind.wrap_i64]; omega
      clear hcl hx hkl hin
      cases hs : signZ x with
      | false =>
        have hb0 : bytesZ x = [] := by unfold bytesZ; rw [hs]; rfl
        rw [hb0] at HB
        have HV := Lib.hid (HX.out hs)
        clear HX HA HQN hs hb0
        go_wp2_with fail
        refine (HB.out _).mono ?_
        rintro e w2 ⟨rfl, hg⟩
        have HG2 := Lib.hid (HG.out.trans hg)
        clear hg HB
        go_wp2
        go_ret2
        exact ⟨by rw [textQ_not HV.out, HV.out]; rfl, HG2.out⟩
      | true =>
        have HA' := Lib.hid (HA.out hs)
        have hsx := signZ_iff.1 hs
        obtain ⟨y, rfl⟩ : ∃ y : Nat, x = (y : Int) := ⟨x.toNat, by omega⟩
        have hsy : isSign y = true := by have := (signZ_nat hs).1; rwa [Int.toNat_natCast] at this
        have hb1 : bytesZ (y : Int) = bytesD y := by unfold bytesZ; rw [if_pos hs, Int.toNat_natCast]
        rw [Int.toNat_natCast] at HQN
        rw [hb1] at HB
        have hp := bytes_pos hsy
        have hl4 := bytes_le y
        have hne : (bytesD y == []) = false := by
          cases hq : bytesD y with
          | nil => rw [hq] at hp; simp at hp
          | cons u v => rfl
        by_cases h39 : y = 39
        · subst h39
          have HQ2 : Hid (39 :: qT (natsZ (xs.take (k + 1))) = S ++ [39] ++ [39]) := Lib.hid (by rw [HQN.out, qC_39, ← HQ.out]; simp)
          have hcat := str_app S [39]
          have hcat2 := str_app (S ++ [39]) [39]
          have hs1 : ¬ 9223372036854775807 < S.length + 1 := by omega
          have hs2 : ¬ 9223372036854775807 < S.length + 1 + 1 := by omega
          rw [show bytesD 39 = [39] from bytes39] at HB
          have HQ3 := Lib.hid (show Hid (39 :: qT (natsZ (xs.take (k + 1))) = S ++ [39] ++ [39]) from HQ2)
          clear HX HA HQN hs hb1 hp hl4 hne hsy hsx HQ2
          go_wp2_with fail
          refine (HB.out _).mono ?_
          rintro e w2 ⟨rfl, hg⟩
          have HG2 := Lib.hid (HG.out.trans hg)
          have hck2 := (hg.cell (p := ⟨b, off + k, none⟩) hb).trans hck
          clear hg HB hck
          go_wp2
          go_roundg (n - (k + 1))
          case rel => exact ⟨k + 1, S ++ [39] ++ [39], by omega, rfl, by first | rfl | (simp; done) | (rw [← hcat2, ← hcat]; rfl), by go_num, HA', HQ3.out, HG2⟩
          case measure => omega
        · have hyb : (((y : Nat) : Int) == 39) = false := by rw [beq_eq_false_iff_ne]; omega
          have HQ2 : Hid (39 :: qT (natsZ (xs.take (k + 1))) = S ++ bytesD y) := Lib.hid (by rw [HQN.out, qC_other h39, ← HQ.out]; simp)
          have hcat := str_app S (bytesD y)
          have hs1 : ¬ 9223372036854775807 < S.length + (bytesD y).length := by omega
          have HQ3 := Lib.hid HQ2
          clear HX HA HQN hs hb1 hp hl4 hsy hsx h39 HQ2
          generalize bytesD y = D at *
          go_wp2_with fail
          refine (HB.out _).mono ?_
          rintro e w2 ⟨rfl, hg⟩
          have HG2 := Lib.hid (HG.out.trans hg)
          have hck2 := (hg.cell (p := ⟨b, off + k, none⟩) hb).trans hck
          clear hg HB hck
          go_wp2
          go_roundg (n - (k + 1))
          case rel => exact ⟨k + 1, S ++ D, by omega, rfl, rfl, by go_num, HA', HQ3.out, HG2⟩
          case measure => omega
    · obtain rfl : k = n := by omega
      have hall : xs.take k = xs := List.take_of_length_le (by rw [HN.out]; exact Nat.le_refl _)
      have HV : Hid (xs.all signZ = true) := Lib.hid (by have := HS.out; rwa [hall] at this)
      have HT : Hid (textQ xs = S ++ [39]) := Lib.hid (by
        rw [textQ_all HV.out]
        have := HQ.out
        rw [hall] at this
        rw [← this]
        rfl)
      have hcat := str_app S [39]
      have hs1 : ¬ 9223372036854775807 < S.length + 1 := by omega
      clear hall HS HQ
      go_wp2
      go_ret2
      exact ⟨by rw [HT.out, HV.out]; first | rfl | (rw [← hcat]; rfl), HG.out⟩
end Go.Proofs.YthmhpjjpjgmdaaaDoor
