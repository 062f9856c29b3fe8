/-
  What the document's own cursor comes to: number, Byte, Num, Int.
-/
import Derived.Test.YtoapfegmipopkaaRefs
import Derived.Test.YtoapfegmipopkaaRTake
namespace Go.Proofs.Ytoapfegmipopkaa
open Go.RowKit

set_option maxRecDepth 10000 in
set_option maxHeartbeats 800000 in
theorem rbyte_any {t : TypeId} {S : Nat → Prop} {g : Nat} {s : St} (w : World) (h : IsC t S w g s) (hg : Good s) :
    Calls Try.prog 33 #[.pointer (some ⟨g, 0, none⟩)] w (Turns t S g (.int .u8 (byteS s).1) (byteS s).2 w) := by
  have HT := Lib.hid (rtake_c 1 w h hg)
  by_cases h0 : s.bs = []
  · have e1 : takeS 1 s = ([], failS 2 s) := by unfold takeS; rw [if_pos (.inr (by rw [h0]; decide))]
    rw [e1] at HT
    have HE := Lib.hid (show byteS s = (0, failS 2 s) by unfold byteS; rw [if_pos h0])
    clear h0 e1
    go_enter Try.func33, Try.ntmps33
    go_wp2_with fail
    refine (HT.out).mono ?_
    rintro e w1 ⟨v, ho, rfl, hi, hkp⟩
    obtain ⟨A, cap, rfl, _⟩ := own_nums ho
    clear ho
    go_wp2
    go_ret
    rw [HE.out]
    exact ⟨rfl, hi, hkp⟩
  · have hl := List.length_pos_iff.2 h0
    have e1 : takeS 1 s = ([s.bs.getD 0 0], passS 1 s) := by
      unfold takeS
      rw [if_neg (by omega)]
      cases hb : s.bs with
      | nil => exact absurd hb h0
      | cons x xs => simp
    rw [e1] at HT
    have HE := Lib.hid (show byteS s = (s.bs.getD 0 0, passS 1 s) by unfold byteS; rw [if_neg h0])
    clear h0 e1
    generalize s.bs.getD 0 0 = x at *
    go_enter Try.func33, Try.ntmps33
    go_wp2_with fail
    refine (HT.out).mono ?_
    rintro e w1 ⟨v, ho, rfl, hi, hkp⟩
    obtain ⟨A, cap, rfl, _, hN, _⟩ := own_nums ho
    obtain ⟨b, off, rfl, _, hc⟩ := hN (by simp)
    have hcell := hc 0 (by simp)
    rw [Nat.add_zero] at hcell
    simp only [List.getD_cons_zero] at hcell
    clear ho hN hc
    go_wp2
    go_ret
    rw [HE.out]
    exact ⟨rfl, hi, hkp⟩

/-- what the next number comes to: it, how many bytes it has, and the cursor behind it -/
def numberS (s : St) : Nat × Nat × St := if (takeN s.bs).2.2 ≠ 0 then (0, 0, failS (takeN s.bs).2.2 s) else ((takeN s.bs).1, (takeN s.bs).2.1, s)

set_option maxRecDepth 10000 in
set_option maxHeartbeats 800000 in
theorem rnumber_any {t : TypeId} {S : Nat → Prop} {g : Nat} {s : St} (w : World) (h : IsC t S w g s) (hg : Good s) :
    Calls Try.prog 39 #[.pointer (some ⟨g, 0, none⟩)] w (Turns t S g (.tuple #[.int .u64 ((numberS s).1 : Nat), .int .i64 ((numberS s).2.1 : Nat)]) (numberS s).2.2 w) := by
  obtain ⟨⟨x, k, e0⟩, ht⟩ : ∃ r, takeN s.bs = r := ⟨_, rfl⟩
  have hfit := takeN_fits s.bs hg.byt
  have hlen := hg.len
  have HE := Lib.hid (show numberS s = if e0 ≠ 0 then (0, 0, failS e0 s) else (x, k, s) by unfold numberS; rw [ht])
  rw [ht] at hfit
  obtain ⟨hx, hk, he3⟩ := hfit
  simp only at hx hk he3
  have HI := Lib.hid h
  have HF := Lib.hid (rfail_any (e0 : Int) w h hg)
  obtain ⟨hS, A, cap, hb, hh⟩ := h
  obtain ⟨c0, -, -, -, -⟩ := cells5 hb
  have HT := Lib.hid (rtake_any A cap s.bs.length s.bs w _ rfl (by omega) hg.byt hh.2.2.1)
  rw [ht, told] at HT
  clear ht hb hh
  by_cases h0 : e0 = 0
  · have HE' := Lib.hid (HE.out.trans (if_neg (by omega)))
    subst h0
    go_enter Try.func39, Try.ntmps39
    go_wp2_with fail
    refine (HT.out).mono ?_
    rintro e w' ⟨rfl, hw⟩
    subst hw
    go_wp2
    go_ret2
    rw [HE'.out]
    exact ⟨rfl, HI.out, Kept.refl _ _⟩
  · have HE' := Lib.hid (HE.out.trans (if_pos h0))
    have h0' : ((e0 : Int) != 0) = true := by simp; omega
    go_enter Try.func39, Try.ntmps39
    go_wp2_with fail
    refine (HT.out).mono ?_
    rintro e w' ⟨rfl, hw⟩
    subst hw
    go_wp2_with fail
    refine (HF.out).mono ?_
    rintro e w1 ⟨rfl, hi, hkp⟩
    go_wp2
    go_ret2
    rw [HE'.out]
    exact ⟨rfl, hi, hkp⟩

theorem takeN_pos (bs : List Int) (hb : Byt bs) (h : (takeN bs).2.2 = 0) : 1 ≤ (takeN bs).2.1 := by
  obtain ⟨m, _, h2, _, _, _⟩ := take_once bs 0 0 (takeN bs).1 (takeN bs).2.1 hb (by unfold takeN at h ⊢; exact Prod.ext rfl (Prod.ext rfl h))
  have := digs_pos m
  omega

theorem rnumber_is {t : TypeId} {S : Nat → Prop} {g : Nat} {s : St} (w : World) (h : IsC t S w g s) (hg : Good s) (x k : Nat) (s1 : St) (hn : numberS s = (x, k, s1)) :
    Calls Try.prog 39 #[.pointer (some ⟨g, 0, none⟩)] w (Turns t S g (.tuple #[.int .u64 (x : Nat), .int .i64 (k : Nat)]) s1 w) := by
  have H := rnumber_any w h hg
  rw [hn] at H
  exact H
theorem rtake_pass {t : TypeId} {S : Nat → Prop} {g : Nat} {s : St} (k : Nat) (w : World) (h : IsC t S w g s) (hg : Good s) (hk : k ≤ s.bs.length) :
    Calls Try.prog 32 #[.pointer (some ⟨g, 0, none⟩), .int .i64 (k : Nat)] w (fun e w' => ∃ v, Turns t S g v (passS k s) w e w') := by
  have H := rtake_c (k : Int) w h hg
  have e1 : takeS (k : Int) s = (s.bs.take k, passS k s) := by unfold takeS; rw [if_neg (by omega)]; rfl
  rw [e1] at H
  exact H.mono fun e w' ⟨v, _, ht⟩ => ⟨v, ht⟩

set_option maxRecDepth 10000 in
set_option maxHeartbeats 800000 in
theorem rnum_any {t : TypeId} {S : Nat → Prop} {g : Nat} {s : St} (n : Int) (w : World) (h : IsC t S w g s) (hg : Good s) (hn : n < 9223372036854775808) :
    Calls Try.prog 31 #[.pointer (some ⟨g, 0, none⟩), .int .i64 n] w (Turns t S g (.int .i64 ((numS n s).1 : Nat)) (numS n s).2 w) := by
  obtain ⟨⟨x, k, e0⟩, ht⟩ : ∃ r, takeN s.bs = r := ⟨_, rfl⟩
  have hfit := takeN_fits s.bs hg.byt
  have hle := takeN_le s.bs hg.byt
  have hps := takeN_pos s.bs hg.byt
  have HE := Lib.hid (show numS n s = settleS x k (if e0 = 0 ∧ (n < 0 ∨ n < x) then 3 else e0) s by unfold numS; rw [ht])
  have hnb : numberS s = if e0 ≠ 0 then (0, 0, failS e0 s) else (x, k, s) := by unfold numberS; rw [ht]
  rw [ht] at hfit hle hps
  obtain ⟨hx, hk10, he3⟩ := hfit
  simp only at hx hk10 hle hps he3
  clear ht
  by_cases h0 : e0 = 0
  · rw [if_neg (by omega)] at hnb
    have HB := Lib.hid (rnumber_is w h hg x k s hnb)
    have hk1 := hps h0
    have hk2 := hle h0
    have hk3 : ((k : Int) == 0) = false := by simp; omega
    subst h0
    clear hps hle hnb
    by_cases h1 : n < 0
    · have HE' := Lib.hid (show numS n s = (0, failS 3 s) by rw [HE.out, if_pos ⟨rfl, .inl h1⟩]; rfl)
      go_enter Try.func31, Try.ntmps31
      go_wp2_with fail
      refine (HB.out).mono ?_
      rintro e w1 ⟨rfl, hi, hkp⟩
      have HI := Lib.hid hi
      have HK := Lib.hid hkp
      clear hi hkp
      go_wp2_with fail
      refine (rfail_any 3 w1 HI.out hg).mono ?_
      rintro e w2 ⟨rfl, hi, hkp⟩
      go_wp2
      go_ret
      rw [HE'.out]
      exact ⟨rfl, hi, HK.out.trans hkp⟩
    · obtain ⟨N, rfl⟩ := Int.eq_ofNat_of_zero_le (show 0 ≤ n by omega)
      have hwr : IntKind.u64.wrap (N : Int) = (N : Int) := by rw [IntKind.wrap_u64]; omega
      by_cases h2 : N < x
      · have HE' := Lib.hid (show numS (N : Int) s = (0, failS 3 s) by rw [HE.out, if_pos ⟨rfl, .inr (by omega)⟩]; rfl)
        go_enter Try.func31, Try.ntmps31
        go_wp2_with fail
        refine (HB.out).mono ?_
        rintro e w1 ⟨rfl, hi, hkp⟩
        have HI := Lib.hid hi
        have HK := Lib.hid hkp
        clear hi hkp
        go_wp2_with fail
        refine (rfail_any 3 w1 HI.out hg).mono ?_
        rintro e w2 ⟨rfl, hi, hkp⟩
        go_wp2
        go_ret
        rw [HE'.out]
        exact ⟨rfl, hi, HK.out.trans hkp⟩
      · have HE' := Lib.hid (show numS (N : Int) s = (x, passS k s) by rw [HE.out, if_neg (by omega)]; rfl)
        have hwx : IntKind.i64.wrap (x : Int) = (x : Int) := by rw [IntKind.wrap_i64]; omega
        have hNx : x ≤ N := by omega
        clear hn hx h2 h1 he3
        go_enter Try.func31, Try.ntmps31
        go_wp2_with fail
        refine (HB.out).mono ?_
        rintro e w1 ⟨rfl, hi, hkp⟩
        have HI := Lib.hid hi
        have HK := Lib.hid hkp
        clear hi hkp
        go_wp2_with fail
        refine (rtake_pass k w1 HI.out hg hk2).mono ?_
        rintro e w2 ⟨v, rfl, hi, hkp⟩
        go_wp2
        go_ret
        rw [HE'.out]
        exact ⟨rfl, hi, HK.out.trans hkp⟩
  · rw [if_pos h0] at hnb
    have HB := Lib.hid (rnumber_is w h hg 0 0 _ hnb)
    have HE' := Lib.hid (show numS n s = (0, failS e0 s) by rw [HE.out, if_neg (by omega)]; unfold settleS; rw [if_pos h0])
    clear hnb hps hle
    go_enter Try.func31, Try.ntmps31
    go_wp2_with fail
    refine (HB.out).mono ?_
    rintro e w1 ⟨rfl, hi, hkp⟩
    go_wp2
    go_ret
    rw [HE'.out]
    exact ⟨rfl, hi, hkp⟩
end Go.Proofs.Ytoapfegmipopkaa
