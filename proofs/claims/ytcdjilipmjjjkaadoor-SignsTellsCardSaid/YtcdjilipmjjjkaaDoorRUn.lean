/-
  What the document's own Unescape comes to, called with any text.
-/
import Derived.Test.YtcdjilipmjjjkaaDoorRSign
import Derived.Test.YtcdjilipmjjjkaaDoorREsc
namespace Go.Proofs.YtcdjilipmjjjkaaDoor
open Go.RowKit Go.Lib
set_option linter.unusedSimpArgs false

theorem signD_lt (l : List UInt8) : (signD l).1 ≤ 4294967296 := by
  have hm : ∀ (x : UInt8) (c : Nat), meant x = some c → c ≤ 1114111 := fun x c h => (isSign_iff.1 (stands_meant h).2.1).1
  rcases l with _ | ⟨b, _ | ⟨x, r⟩⟩
  · exact Nat.zero_le _
  · have := u8_lt b
    show (if b.toNat = 64 then (0, 0) else (b.toNat, 1)).1 ≤ _
    split
    · exact Nat.zero_le _
    · simp only; omega
  · have := u8_lt b
    show (if b.toNat = 64 then (if x.toNat = 64 then (64, 2) else match meant x with
      | some c => (c, 2)
      | none => hexIn 8 0 2 r) else (b.toNat, 1)).1 ≤ _
    split
    · split
      · simp
      · split
        · rename_i c h
          have := hm _ _ h
          simp only
          omega
        · have := hexIn_lt 8 0 2 r
          have h8 : (16 : Nat) ^ 8 * (0 + 1) = 4294967296 := by decide
          omega
    · simp only; omega

structure RefAt (l : List UInt8) (w : World) (R acc : List UInt8) (wr : World) : Prop where
  eq : refD l = (refD R).map (acc ++ ·)
  le : acc.length + 4 * R.length ≤ 4 * l.length
  grow : Grow w wr

set_option maxRecDepth 10000 in
set_option maxHeartbeats 1600000 in
theorem run_any (l : List UInt8) (w : World) (hl : l.length ≤ 200000) : Calls Tryd.prog 12 #[.string ⟨l.toArray⟩] w (Unescaped l w) := by
  have HU := Lib.hid (un_ref l)
  go_enter Tryd.func12, Tryd.ntmps12
  go_wp2
  go_loopg [4, 5] l.length (fun g s4 s5 wr => ∃ (R acc : List UInt8), g = R.length ∧ s4 = .string ⟨acc.toArray⟩ ∧ s5 = .string ⟨R.toArray⟩ ∧ RefAt l w R acc wr)
  case atStart =>
    refine ⟨l, [], rfl, rfl, rfl, ?_, by simp, Grow.refl _⟩
    cases refD l with
    | none => rfl
    | some u => rfl
  case round =>
    obtain ⟨R, acc, rfl, rfl, rfl, hat⟩ := hrel
    have HA := Lib.hid hat
    rcases list_cases R with hR | ⟨x, t, hR⟩
    · subst hR
      have hs : refD l = some acc := by rw [hat.eq, refD_nil]; simp
      have hal : acc.length ≤ 800000 := by have := hat.le; simp at this; omega
      have hu := HU.out
      rw [hs] at hu
      simp only at hu
      have HE := Lib.hid (resc_any acc wr (by omega))
      unfold Escaped at HE
      clear hat hs HU
      cases he : escT acc with
      | none =>
        rw [he] at hu HE
        have HF : Hid (unD l = none) := Lib.hid (by rw [hu, if_neg (by simp)])
        clear hu he
        go_wp2_with fail
        refine (HE.out).mono ?_
        rintro e w2 ⟨rfl, hg⟩
        have HG := Lib.hid (HA.out.grow.trans hg)
        clear hg HE
        simp only [Option.getD_none, Option.isSome_none]
        go_wp2
        go_ret2
        exact ⟨by rw [HF.out]; rfl, HG.out⟩
      | some u =>
        rw [he] at hu HE
        by_cases heq : u = l
        · have HF : Hid (unD l = some acc) := Lib.hid (by rw [hu, if_pos (by rw [heq])])
          have hb : (u == l) = true := by rw [heq]; simp
          clear hu he
          subst heq
          go_wp2_with fail
          refine (HE.out).mono ?_
          rintro e w2 ⟨rfl, hg⟩
          have HG := Lib.hid (HA.out.grow.trans hg)
          clear hg HE
          simp only [Option.getD_some, Option.isSome_some]
          go_wp2
          go_ret2
          exact ⟨by rw [HF.out]; rfl, HG.out⟩
        · have HF : Hid (unD l = none) := Lib.hid (by rw [hu, if_neg (by simpa using heq)])
          have hb : (u == l) = false := by simpa using heq
          clear hu he heq
          go_wp2_with fail
          refine (HE.out).mono ?_
          rintro e w2 ⟨rfl, hg⟩
          have HG := Lib.hid (HA.out.grow.trans hg)
          clear hg HE
          simp only [Option.getD_some, Option.isSome_some]
          go_wp2
          go_ret2
          exact ⟨by rw [HF.out]; rfl, HG.out⟩
    · have hne : (R == []) = false := by rw [hR]; rfl
      have hnil : R ≠ [] := by rw [hR]; simp
      have hRl : R.length ≤ 200000 := by have := hat.le; omega
      obtain ⟨c, hc⟩ : ∃ c, (signD R).1 = c := ⟨_, rfl⟩
      obtain ⟨n, hn⟩ : ∃ n, (signD R).2 = n := ⟨_, rfl⟩
      have hcn : signD R = (c, n) := Prod.ext hc hn
      have hcl : c ≤ 4294967296 := by rw [← hc]; exact signD_lt R
      have hnl : n ≤ R.length := by rw [← hn]; exact sign_le R
      have HN := Lib.hid (rsign_any R wr hnil (by omega))
      rw [hcn] at HN
      have hst := refD_step hnil
      rw [hcn] at hst
      simp only at hst
      by_cases h0 : n = 0
      · subst h0
        rw [if_pos rfl] at hst
        have HS : Hid (unD l = none) := Lib.hid (by rw [HU.out, hat.eq, hst]; rfl)
        clear hat hR hnil hc hn hcn hst HU
        go_wp2_with fail
        refine (HN.out).mono ?_
        rintro e w2 ⟨rfl, hg⟩
        have HG := Lib.hid (HA.out.grow.trans hg)
        clear hg HN
        go_wp2
        go_ret2
        exact ⟨by rw [HS.out]; rfl, HG.out⟩
      · rw [if_neg h0] at hst
        have hsl := slice_from R n hnl
        have hn0 : (((n : Nat) : Int) == 0) = false := by rw [beq_eq_false_iff_ne]; omega
        have hb4 := bytes_le c
        have HE : Hid (refD l = (refD (R.drop n)).map ((acc ++ bytesD c) ++ ·)) := Lib.hid (by
          rw [hat.eq, hst]
          cases refD (R.drop n) with
          | none => rfl
          | some u => simp)
        have hlt : (R.drop n).length < R.length := by rw [List.length_drop]; omega
        have hll : (acc ++ bytesD c).length + 4 * (R.drop n).length ≤ 4 * l.length := by rw [List.length_append, List.length_drop]; have := hat.le; omega
        have hsum : ¬ 9223372036854775807 < acc.length + (bytesD c).length := by have := hat.le; omega
        have HB := Lib.hid (fun W => rbytes_any c W (by omega))
        have hadd := str_app acc (bytesD c)
        generalize bytesD c = bs at *
        clear hat hR hnil hc hn hcn hst h0 hnl HU
        go_wp2_with fail
        refine (HN.out).mono ?_
        rintro e w2 ⟨rfl, hg⟩
        have HG2 := Lib.hid (HA.out.grow.trans hg)
        clear hg HN
        go_wp2_with fail
        refine (HB.out w2).mono ?_
        rintro e w3 ⟨rfl, hg⟩
        have HK : Hid (RefAt l w (R.drop n) (acc ++ bs) w3) := Lib.hid ⟨HE.out, hll, HG2.out.trans hg⟩
        clear hg HB
        go_wp2
        go_roundg (R.drop n).length
        case rel => exact ⟨R.drop n, _, rfl, rfl, rfl, HK.out⟩
        case measure => exact hlt
end Go.Proofs.YtcdjilipmjjjkaaDoor
