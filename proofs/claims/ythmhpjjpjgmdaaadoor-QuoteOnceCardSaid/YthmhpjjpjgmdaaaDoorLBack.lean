/-
  QuoteBack comes to true, whatever it is called with.
-/
import Derived.Test.YthmhpjjpjgmdaaaDoorLParts
namespace Go.Proofs.YthmhpjjpjgmdaaaDoor
open Go.RowKit Go.Lib
set_option linter.unusedSimpArgs false
set_option linter.unusedVariables false

theorem back_read {xs : List Int} (hx : xs.all signZ = true) {l : List UInt8} (hl : l.head? ≠ some 39) : mkL (readQ (textQ xs ++ l)) = (xs, l, true) := by
  rw [textQ_inQ hx, read_of (nats_sign hx) hl]
  show (intsZ (natsZ xs), l, true) = _
  rw [ints_nats hx]
theorem back_alone {xs : List Int} (hx : xs.all signZ = true) : mkL (readQ (textQ xs)) = (xs, [], true) := by
  have h := back_read hx (l := []) (by simp)
  rwa [List.append_nil] at h
theorem all_false {xs : List Int} {k : Nat} (h : (xs.take k).all signZ = false) : (xs.take (k + 1)).all signZ = false := by
  rw [Bool.eq_false_iff] at h ⊢
  intro h2
  apply h
  rw [List.all_eq_true] at h2 ⊢
  intro x hx
  refine h2 x ?_
  rw [show xs.take k = (xs.take (k + 1)).take k by rw [List.take_take]; congr 1; omega] at hx
  exact List.mem_of_mem_take hx
theorem all_next {xs : List Int} {k : Nat} (hk : k < xs.length) {β γ : Bool} (h : (xs.take k).all signZ = β) (hg : (β && signZ (xs.getD k 0)) = γ) : (xs.take (k + 1)).all signZ = γ := by
  have e : xs.getD k 0 = xs[k] := by simp [List.getD, hk]
  rw [List.take_succ_eq_append_getElem hk, List.all_append, h, ← e, List.all_cons, ← hg]
  simp

set_option maxRecDepth 100000 in
set_option maxHeartbeats 6400000 in
theorem lback_walk (A : Option Addr) (n cap : Nat) (xs : List Int) (l : List UInt8) (w : World) (hL : Laid w) (hn : xs.length = n) (hm : n ≤ 9223372036854775807) (hl : l.length ≤ 9223372036854775807) (hr : Nums .i64 w w.heap.size A xs) :
    Calls Tryd.prog 4 #[.slice A n cap, .string ⟨l.toArray⟩] w (Fine w) := by
  have HS := Lib.hid (fun W h => small_any W h)
  have HL := Lib.hid hL
  have HR := Lib.hid hr
  have HN := Lib.hid hn
  clear hL hr hn
  by_cases k1 : 100 < n
  · have k1i : decide ((100 : Int) < ((n : Nat) : Int)) = true := by rw [decide_eq_true_iff]; omega
    go_enter Tryd.func4, Tryd.ntmps4
    go_wp2_with fail
    refine (HS.out _ HL.out).mono ?_
    rintro x w1 ⟨rfl, hg⟩
    have HG1 := Lib.hid hg
    clear hg HS
    go_wp2
    go_ret
    exact ⟨rfl, HG1.out⟩
  have k1i : decide ((100 : Int) < ((n : Nat) : Int)) = false := by rw [decide_eq_false_iff_not]; omega
  by_cases k2 : 300 < l.length
  · have k2i : decide ((300 : Int) < ((l.length : Nat) : Int)) = true := by rw [decide_eq_true_iff]; omega
    go_enter Tryd.func4, Tryd.ntmps4
    go_wp2_with fail
    refine (HS.out _ HL.out).mono ?_
    rintro x w1 ⟨rfl, hg⟩
    have HG1 := Lib.hid hg
    clear hg HS
    go_wp2
    go_ret
    exact ⟨rfl, HG1.out⟩
  have k2i : decide ((300 : Int) < ((l.length : Nat) : Int)) = false := by rw [decide_eq_false_iff_not]; omega
  have HT := Lib.hid (fun W h => text_any A n cap xs W HN.out (by omega) h)
  have L1 := textQ_len xs
  rw [HN.out] at L1
  have HNO : Hid (xs.all signZ = false → textQ xs = []) := Lib.hid textQ_not
  have HR1 : Hid (xs.all signZ = true → l.head? ≠ some 39 → ∀ W, Laid W → Calls Tryd.prog 11 #[.string ⟨(textQ xs ++ l).toArray⟩] W (ReadP xs l true W)) :=
    Lib.hid (fun hx hl W hW => read_says (back_read hx hl) (by rw [List.length_append]; omega) W hW)
  have HR2 := Lib.hid (fun W hW => read_any (textQ xs ++ l) (by rw [List.length_append]; omega) W hW)
  have HR3 : Hid (xs.all signZ = true → ∀ W, Laid W → Calls Tryd.prog 11 #[.string ⟨(textQ xs).toArray⟩] W (ReadP xs [] true W)) :=
    Lib.hid (fun hx W hW => read_says (back_alone hx) (by omega) W hW)
  have hcat := str_app (textQ xs) l
  have hs1 : ¬ 9223372036854775807 < (textQ xs).length + l.length := by omega
  obtain ⟨ok, hok⟩ : ∃ c, xs.all signZ = c := ⟨_, rfl⟩
  have HOK : Hid (∀ β, (xs.take n).all signZ = β → β = ok) := Lib.hid (fun β h => by
    rw [List.take_of_length_le (by rw [HN.out]; exact Nat.le_refl _)] at h
    rw [← h, ← hok])
  rw [hok] at HT HNO HR1 HR3
  have hnb : n ≤ 1000000 := by omega
  clear hok L1 k1 k2 hm hl
  generalize textQ xs = S at *
  obtain ⟨V, hV⟩ : ∃ V, mkL (readQ (S ++ l)) = V := ⟨_, rfl⟩
  rw [hV] at HR2
  clear hV
  go_enter Tryd.func4, Tryd.ntmps4
  go_wp2_with fail
  refine (HS.out _ HL.out).mono ?_
  rintro x w1 ⟨rfl, hg⟩
  have HG1 := Lib.hid hg
  clear hg HS
  go_wp2_with fail
  refine (HT.out _ (HR.out.grow HG1.out)).mono ?_
  rintro x w2 ⟨rfl, hg⟩
  have HG2 := Lib.hid (HG1.out.trans hg)
  have HRN := Lib.hid (HR.out.grow (HG1.out.trans hg))
  clear hg HT HG1 HR k1i k2i
  go_wp2
  go_loopg [8, 9] n (fun g s8 s9 wr => ∃ (k : Nat) (β : Bool), k ≤ n ∧ g = n - k ∧ s8 = .bool β ∧ s9 = .int .i64 k ∧ Hid ((xs.take k).all signZ = β) ∧ w2 = wr)
  case atStart => exact ⟨0, true, Nat.zero_le _, rfl, rfl, rfl, Lib.hid rfl, rfl⟩
  case round =>
    obtain ⟨k, β, hk, rfl, rfl, rfl, HB, rfl⟩ := hrel
    by_cases hlt : k < n
    · have HNX : Hid (∀ γ, (β && signZ (xs.getD k 0)) = γ → (xs.take (k + 1)).all signZ = γ) := Lib.hid (fun γ h => all_next (by rw [HN.out]; exact hlt) HB.out h)
      obtain ⟨b, off, rfl, hb, hcl⟩ := HRN.out (by rw [HN.out]; omega)
      have hck := hcl k (by rw [HN.out]; exact hlt)
      obtain ⟨x, hx⟩ : ∃ x, xs.getD k 0 = x := ⟨_, rfl⟩
      rw [hx] at hck HNX
      have hwk : IntKind.i64.wrap (((k : Nat) : Int) + 1) = ((k : Nat) : Int) + 1 := by rw [IntKind.wrap_i64]; omega
      clear hcl hx hb HR1 HR2 HR3 HNO HOK HB hcat hs1
      cases β with
      | false =>
        have HK := Lib.hid (HNX.out false rfl)
        clear HNX
        go_wp2
        go_roundg (n - (k + 1))
        case rel => exact ⟨k + 1, false, by omega, rfl, rfl, by go_num, HK, rfl⟩
        case measure => omega
      | true =>
        by_cases x0 : 0 ≤ x
        · by_cases x1 : x ≤ 1114111
          · by_cases x2 : x < 55296
            · have HK := Lib.hid (HNX.out true (by rw [signZ_iff.2 ⟨by omega, by omega, by omega⟩]; rfl))
              clear HNX
              go_wp2
              go_roundg (n - (k + 1))
              case rel => exact ⟨k + 1, true, by omega, rfl, rfl, by go_num, HK, rfl⟩
              case measure => omega
            · by_cases x3 : 57343 < x
              · have HK := Lib.hid (HNX.out true (by rw [signZ_iff.2 ⟨by omega, by omega, by omega⟩]; rfl))
                clear HNX
                go_wp2
                go_roundg (n - (k + 1))
                case rel => exact ⟨k + 1, true, by omega, rfl, rfl, by go_num, HK, rfl⟩
                case measure => omega
              · have HK := Lib.hid (HNX.out false (by unfold signZ; rw [decide_eq_false (by omega)]; rfl))
                clear HNX
                go_wp2
                go_roundg (n - (k + 1))
                case rel => exact ⟨k + 1, false, by omega, rfl, rfl, by go_num, HK, rfl⟩
                case measure => omega
          · have HK := Lib.hid (HNX.out false (by unfold signZ; rw [decide_eq_false (by omega)]; rfl))
            clear HNX
            go_wp2
            go_roundg (n - (k + 1))
            case rel => exact ⟨k + 1, false, by omega, rfl, rfl, by go_num, HK, rfl⟩
            case measure => omega
        · have HK := Lib.hid (HNX.out false (by unfold signZ; rw [decide_eq_false (by omega)]; rfl))
          clear HNX
          go_wp2
          go_roundg (n - (k + 1))
          case rel => exact ⟨k + 1, false, by omega, rfl, rfl, by go_num, HK, rfl⟩
          case measure => omega
    · obtain rfl : k = n := by omega
      obtain rfl := HOK.out β HB.out
      clear HOK HB hlt
      cases β with
      | false =>
        obtain rfl := HNO.out rfl
        clear HR1 HR2 HR3 hcat hs1
        go_wp2
        go_ret
        exact ⟨rfl, HG2.out⟩
      | true =>
        have HR3' := Lib.hid (HR3.out rfl)
        have HR1' := Lib.hid (HR1.out rfl)
        clear HNO HR1 HR3
        cases hl0 : (l == []) with
        | true =>
          have hh : l.head? ≠ some 39 := by
            cases l with
            | nil => simp
            | cons c t => cases hl0
          have HR4 := Lib.hid (HR1'.out hh)
          clear HR1' HR2 HR3' hh
          go_wp2_with fail
          refine (HR4.out _ (HL.out.grow HG2.out)).mono ?_
          rintro x w4 ⟨B, cc, rfl, hcc, hnl, hg⟩
          have HG4 := Lib.hid (HG2.out.trans hg)
          have HSM := Lib.hid (same_eq B A k cc cap xs w4 HN.out (by omega) hnl (HRN.out.grow hg))
          rw [HN.out]
          clear hg hnl hcc HR4
          go_wp2_with fail
          refine (HSM.out).mono ?_
          rintro x w6 ⟨rfl, hg⟩
          have HG6 := Lib.hid (HG4.out.trans hg)
          clear hg HSM HG4
          go_wp2
          go_ret
          exact ⟨rfl, HG6.out⟩
        | false =>
          obtain ⟨c, t, rfl⟩ : ∃ c t, l = c :: t := by
            cases l with
            | nil => cases hl0
            | cons c t => exact ⟨c, t, rfl⟩
          have hix : ∀ W, (Instr.index 9 (.string ⟨(c :: t).toArray⟩) (.int .i64 0)).run Tryd.prog W = .ok (.int .u8 (c.toNat : Nat)) W := fun W => index_str (l := c :: t) (i := 0) rfl W
          have HC : Hid (c.toNat ≠ 39 → (c :: t).head? ≠ some 39) := Lib.hid (fun h e => h (by have : c = 39 := by simpa using e
                                                                                               rw [this]; rfl))
          generalize c :: t = l at *
          generalize c.toNat = C at *
          by_cases hC : C = 39
          · subst hC
            clear HC HR1'
            go_wp2_with fail
            refine (HR2.out _ (HL.out.grow HG2.out)).mono ?_
            rintro x w4 ⟨B0, c0, rfl, _, _, hg⟩
            have HG3 := Lib.hid (HG2.out.trans hg)
            have HRN3 := Lib.hid (HRN.out.grow hg)
            clear hg HR2
            go_wp2_with fail
            refine (HR3'.out _ (HL.out.grow HG3.out)).mono ?_
            rintro x w5 ⟨B, cc, rfl, hcc, hnl, hg⟩
            have HG4 := Lib.hid (HG3.out.trans hg)
            have HSM := Lib.hid (same_eq B A k cc cap xs w5 HN.out (by omega) hnl (HRN3.out.grow hg))
            rw [HN.out]
            clear hg hnl hcc HR3'
            go_wp2_with fail
            refine (HSM.out).mono ?_
            rintro x w6 ⟨rfl, hg⟩
            have HG6 := Lib.hid (HG4.out.trans hg)
            clear hg HSM HG4
            go_wp2
            go_ret
            exact ⟨rfl, HG6.out⟩
          · have HR4 := Lib.hid (HR1'.out (HC.out hC))
            have hCb : (((C : Nat) : Int) == 39) = false := by rw [beq_eq_false_iff_ne]; omega
            clear HC HR1' HR2 HR3' hC
            go_wp2_with fail
            refine (HR4.out _ (HL.out.grow HG2.out)).mono ?_
            rintro x w4 ⟨B, cc, rfl, hcc, hnl, hg⟩
            have HG4 := Lib.hid (HG2.out.trans hg)
            have HSM := Lib.hid (same_eq B A k cc cap xs w4 HN.out (by omega) hnl (HRN.out.grow hg))
            rw [HN.out]
            clear hg hnl hcc HR4
            go_wp2_with fail
            refine (HSM.out).mono ?_
            rintro x w6 ⟨rfl, hg⟩
            have HG6 := Lib.hid (HG4.out.trans hg)
            clear hg HSM HG4
            go_wp2
            go_ret
            exact ⟨rfl, HG6.out⟩
end Go.Proofs.YthmhpjjpjgmdaaaDoor
