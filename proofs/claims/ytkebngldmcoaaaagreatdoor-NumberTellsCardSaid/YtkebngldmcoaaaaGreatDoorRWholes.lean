/-
  What the document's own Whole comes to.
-/
import Derived.Test.YtkebngldmcoaaaaGreatDoorRNorms
import Derived.Test.YtkebngldmcoaaaaGreatDoorWholes
namespace Go.Proofs.YtkebngldmcoaaaaGreatDoor
open Go.RowKit

set_option maxRecDepth 10000 in
set_option maxHeartbeats 800000 in
theorem rwhole_any (m e : Int) (w : World) (hm : In m) (he : In e) :
    Calls Tryz.prog 30 #[.agg #[.int .i64 m, .int .i64 e]] w fun x w' => x = .returned (.tuple #[.int .i64 (wholeD m e).1, .bool (wholeD m e).2]) ∧ Grow w w' := by
  have HC := Lib.hid (fun W => rright_any m e W hm he)
  have HM := Lib.hid hm
  have hm1 := hm.1; have hm2 := hm.2; have he1 := he.1; have he2 := he.2
  clear hm he
  go_enter Tryz.func30, Tryz.ntmps30
  go_wp2_with fail
  refine (HC.out _).mono ?_
  rintro x w1 ⟨rfl, hg⟩
  have hb := (boxed_new w (.int .i64 m) (.int .i64 e) 28).grow hg
  have hc0 := hb.fst
  have hc1 := hb.snd
  have HG := Lib.hid ((grow_new w _).trans hg)
  clear hb hg HC
  obtain ⟨r, hr⟩ : ∃ r, rightB m e = r := ⟨_, rfl⟩
  rw [hr]
  cases r
  · have HW := Lib.hid (whole_wrong (.inl hr))
    clear hr
    go_wp2
    go_ret2
    exact ⟨by rw [HW.out]; rfl, HG.out⟩
  · by_cases hneg : e < 0
    · have HW := Lib.hid (whole_wrong (m := m) (.inr hneg))
      clear hr
      go_wp2
      go_ret2
      exact ⟨by rw [HW.out]; rfl, HG.out⟩
    · by_cases hfar : 18 < e
      · have HW := Lib.hid (whole_far HM.out hfar)
        clear hr
        go_wp2
        go_ret2
        exact ⟨by rw [HW.out]; rfl, HG.out⟩
      · obtain ⟨E, rfl⟩ := Int.eq_ofNat_of_zero_le (show 0 ≤ e by omega)
        have HR := Lib.hid hr
        have hE18 : E ≤ 18 := by omega
        clear hr
        go_wp2
        go_loopg [4, 5] E (fun gk s4 s5 wr => ∃ (n : Int) (i : Nat), gk = E - i ∧ i ≤ E ∧ s4 = .int .i64 n ∧ s5 = .int .i64 i ∧ Hid (n = m * 10 ^ i) ∧ -9223372036854775808 ≤ n ∧ n ≤ 9223372036854775807 ∧ w1 = wr)
        case atStart => exact ⟨m, 0, rfl, by omega, rfl, rfl, Lib.hid (by simp), hm1, hm2, rfl⟩
        case round =>
          obtain ⟨n, i, rfl, hiE, rfl, rfl, HN, hn1, hn2, rfl⟩ := hrel
          by_cases hlt : i < E
          · by_cases hhi : 922337203685477580 < n
            · have HW := Lib.hid (whole_not HN.out rfl hlt (fun h => by have := h.2; omega))
              go_wp2
              go_ret2
              exact ⟨by rw [HW.out]; rfl, HG.out⟩
            · by_cases hlo : n < -922337203685477580
              · have HW := Lib.hid (whole_not HN.out rfl hlt (fun h => by have := h.1; omega))
                go_wp2
                go_ret2
                exact ⟨by rw [HW.out]; rfl, HG.out⟩
              · have HN' : Hid (10 * n = m * 10 ^ (i + 1)) := Lib.hid (by rw [HN.out, Int.pow_succ, Int.mul_comm, Int.mul_assoc])
                go_wp2
                go_roundg (E - (i + 1))
                · exact ⟨10 * n, i + 1, rfl, hlt, rfl, rfl, HN', by omega, by omega, rfl⟩
                · omega
          · have hi : i = E := by omega
            subst hi
            have HW := Lib.hid (whole_yes HR.out rfl HN.out ⟨hn1, hn2⟩)
            clear hlt
            go_wp2
            go_ret2
            exact ⟨by rw [HW.out]; rfl, HG.out⟩

end Go.Proofs.YtkebngldmcoaaaaGreatDoor
