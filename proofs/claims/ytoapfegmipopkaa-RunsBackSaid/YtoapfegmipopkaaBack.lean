/-
  The law RunsBack at every input.
-/
import Derived.Test.YtoapfegmipopkaaSmall
namespace Go.Proofs.Ytoapfegmipopkaa
open Go.RowKit

set_option maxRecDepth 10000 in
set_option maxHeartbeats 800000 in
theorem back_walk (A : Option Addr) (n c : Nat) (bs : List Int) (x : Int) (w : World) (h1 : bs.length = n) (hn : n ≤ 9223372036854775807) (hnc : n ≤ c) (hc : A = none → c = 0) (b1 : Byt bs) (r1 : Nums .u8 w w.heap.size A bs) :
    Calls Try.prog 4 #[.slice A n c, .int .i64 x] w (Fine w) := by
  have HS := Lib.hid (small_any w)
  by_cases h : n ≤ 1000
  · obtain ⟨E, hE⟩ : ∃ E, (enc bs).length = E := ⟨_, rfl⟩
    have hlen := enc_len _ bs (Nat.le_refl _) (by omega)
    rw [hE, h1] at hlen
    have HE := Lib.hid hE
    have HEN := Lib.hid (fun W G => (encode_any A n c bs W h1 (by omega) hnc hc b1 G).mono fun _ _ x => x.bytes hE)
    have HEB := Lib.hid (enc_byt _ bs (Nat.le_refl _) b1)
    have HIE := Lib.hid (show ∀ y : Int, IsEnc (enc bs) y ↔ y = n from fun y => by
      constructor
      · rintro ⟨ys, h2, h3⟩
        rw [enc_inj h2, h1] at h3
        exact h3.symm
      · rintro rfl
        exact ⟨bs, rfl, by rw [h1]⟩)
    have HR := Lib.hid r1
    have HN := Lib.hid h1
    clear h1 hc b1 r1 hE hn
    have hEl : E ≤ 11000 := by omega
    go_enter Try.func4, Try.ntmps4
    go_wp2_with fail
    refine (HS.out).mono ?_
    rintro e w1 ⟨rfl, hb1⟩
    have HB1 := Lib.hid hb1
    clear hb1
    go_wp2_with fail
    refine (HEN.out w1 (HR.out.grow HB1.out)).mono ?_
    rintro e w2 ⟨A2, c2, rfl, hA2, -, hn2, hb2⟩
    have HB2 := Lib.hid (HB1.out.trans hb2)
    have HN2 := Lib.hid hn2
    clear hb2 hn2 HEN
    have HD1 := Lib.hid (decode_any A2 E c2 (enc bs) (n : Int) w2 HE.out (by omega) hA2 HEB.out HN2.out (fun hx => by omega))
    go_wp2_with fail
    refine (HD1.out).mono ?_
    rintro e w3 hd3
    obtain ⟨A3, c3, rfl, -, -, hn3, hb3⟩ := hd3.yes (ys := bs) rfl (by rw [HN.out]) HN.out
    have HB3 := Lib.hid (HB2.out.trans hb3)
    have HN3 := Lib.hid hn3
    have HN23 := Lib.hid (HN2.out.grow hb3)
    clear hd3 hb3 hn3 HD1
    have HD2 := Lib.hid (decode_any A2 E c2 (enc bs) x w3 HE.out (by omega) hA2 HEB.out HN23.out (fun hx hi => by
      have := (HIE.out x).1 hi
      omega))
    by_cases hx : x = n
    · subst hx
      go_wp2_with fail
      refine (HD2.out).mono ?_
      rintro e w4 hd4
      obtain ⟨A4, c4, rfl, -, -, hn4, hb4⟩ := hd4.yes (ys := bs) rfl (by rw [HN.out]) HN.out
      have HB4 := Lib.hid (HB3.out.trans hb4)
      have hs1 : (convert 22 9 (.slice A3 n c3)).run Try.prog w4 = .ok (.string (strOfNums bs)) w4 := by
        have h := conv_any (k := 22) c3 (HN3.out.grow hb4) rfl
        rw [HN.out] at h
        exact h
      have hs2 : (convert 22 9 (.slice A n c)).run Try.prog w4 = .ok (.string (strOfNums bs)) w4 := by
        have h := conv_any (k := 22) c (HR.out.grow HB4.out) rfl
        rw [HN.out] at h
        exact h
      clear hd4 hb4 hn4 HD2
      go_wp2
      go_ret
      exact ⟨rfl, HB4.out⟩
    · have hxb : (x == (n : Int)) = false := by simpa using hx
      go_wp2_with fail
      refine (HD2.out).mono ?_
      rintro e w4 hd4
      obtain ⟨rfl, hb4⟩ := hd4.no (fun hi => hx ((HIE.out x).1 hi))
      have HB4 := Lib.hid (HB3.out.trans hb4)
      have hs1 : (convert 22 9 (.slice A3 n c3)).run Try.prog w4 = .ok (.string (strOfNums bs)) w4 := by
        have h := conv_any (k := 22) c3 (HN3.out.grow hb4) rfl
        rw [HN.out] at h
        exact h
      have hs2 : (convert 22 9 (.slice A n c)).run Try.prog w4 = .ok (.string (strOfNums bs)) w4 := by
        have h := conv_any (k := 22) c (HR.out.grow HB4.out) rfl
        rw [HN.out] at h
        exact h
      clear hd4 hb4 HD2
      go_wp2
      go_ret
      exact ⟨rfl, HB4.out⟩
  · have hn' : 1000 < n := by omega
    clear h1 hc b1 r1 hnc
    go_enter Try.func4, Try.ntmps4
    go_wp2_with fail
    refine (HS.out).mono ?_
    rintro e w1 ⟨rfl, hb1⟩
    go_wp2
    go_ret
    exact ⟨rfl, hb1⟩
end Go.Proofs.Ytoapfegmipopkaa
