/-
  What Take and Num of a cursor come to.
-/
import Derived.Test.YtoapfegmipopkaaFails
namespace Go.Proofs.Ytoapfegmipopkaa
open Go.RowKit

theorem own_base {w : World} {b b' n : Nat} {v : Value} {xs : List Value} (h : w.ownsRow b 5 1 v n xs) (hb : b' ≤ b) : w.ownsRow b' 5 1 v n xs := by
  refine ⟨h.1, ?_⟩
  rcases h.2 with h0 | ⟨g, cap, cur, hv, hbg, rest⟩
  · exact .inl h0
  · exact .inr ⟨g, cap, cur, hv, Nat.le_trans hb hbg, rest⟩

/-- bytes in memory of their own, and the cursor behind it -/
def Took (t : TypeId) (S : Nat → Prop) (g : Nat) (xs : List Int) (s : St) (w : World) (e : Ending) (w' : World) : Prop :=
  ∃ v, w'.ownsRow w.heap.size 5 1 v xs.length (u8s xs) ∧ Turns t S g v s w e w'

set_option maxRecDepth 10000 in
set_option maxHeartbeats 800000 in
theorem take_c {t : TypeId} {S : Nat → Prop} {g : Nat} {s : St} (n : Int) (w : World) (h : IsC t S w g s) (hg : Good s) :
    Calls Try.prog 28 #[.pointer (some ⟨g, 0, none⟩), .int .i64 n] w (Took t S g (takeS n s).1 (takeS n s).2 w) := by
  have HL := Lib.hid (left_any w h)
  have HC := Lib.hid (fail_any 2 w h)
  by_cases h0 : n < 0
  · have HE := Lib.hid (show takeS n s = ([], failS 2 s) by unfold takeS; rw [if_pos (.inl h0)])
    go_enter Try.func28, Try.ntmps28
    go_wp2_with fail
    refine (HC.out).mono ?_
    rintro e w1 ⟨rfl, hi, hkp⟩
    go_wp2
    go_ret
    rw [HE.out]
    exact ⟨_, World.ownsRow_nil _ _ _ _, rfl, hi, hkp⟩
  · obtain ⟨m, rfl⟩ := Int.eq_ofNat_of_zero_le (show 0 ≤ n by omega)
    have hpl := hg.len
    by_cases h1 : s.bs.length < m
    · have HE := Lib.hid (show takeS (m : Int) s = ([], failS 2 s) by unfold takeS; rw [if_pos (.inr (by omega))])
      clear h0
      go_enter Try.func28, Try.ntmps28
      go_wp2_with fail
      refine (HL.out).mono ?_
      rintro e w' ⟨rfl, rfl⟩
      go_wp2_with fail
      refine (HC.out).mono ?_
      rintro e w1 ⟨rfl, hi, hkp⟩
      go_wp2
      go_ret
      rw [HE.out]
      exact ⟨_, World.ownsRow_nil _ _ _ _, rfl, hi, hkp⟩
    · have HE := Lib.hid (show takeS (m : Int) s = (s.bs.take m, passS m s) by unfold takeS; rw [if_neg (by omega)]; rfl)
      have HP := Lib.hid (pass_any (n := m) w h hg (by omega))
      have hml : m ≤ s.bs.length := by omega
      have HTL := Lib.hid (show (s.bs.take m).length = m by simp; omega)
      clear h0
      go_enter Try.func28, Try.ntmps28
      go_wp2_with fail
      refine (HL.out).mono ?_
      rintro e w' ⟨rfl, rfl⟩
      go_wp2_with fail
      refine (HP.out).mono ?_
      rintro e w1 ⟨A, cap, ⟨rfl, hi, hkp⟩, hh⟩
      have HI := Lib.hid hi
      have HK := Lib.hid hkp
      have hA := hh.1
      have HN := Lib.hid (hh.2.2.1.take m)
      have hsz := hkp.size
      clear hi hkp hh
      go_wp2_with (at_builtin; refine wpList_append_bytes rfl _ _ rfl w1.heap.size _ 0 m cap [] (s.bs.take m) A _ rfl (World.ownsRow_nil _ _ _ _) rfl HTL.out.symm hA HN.out (by omega) (Nat.le_refl _) ?_; intro v2 w2 hown2 hb2)
      rw [Nat.zero_add, List.nil_append] at hown2
      have HO2 := Lib.hid hown2
      have HB2 := Lib.hid hb2
      clear hown2 hb2
      go_wp2
      go_ret
      rw [HE.out]
      exact ⟨v2, by rw [HTL.out]; exact own_base HO2.out hsz, rfl, HI.out.grow HB2.out, HK.out.trans (Kept.of_grow HB2.out)⟩

set_option maxRecDepth 10000 in
set_option maxHeartbeats 800000 in
theorem num_any {t : TypeId} {S : Nat → Prop} {g : Nat} {s : St} (n : Int) (w : World) (h : IsC t S w g s) (hg : Good s) (hn : n < 9223372036854775808) :
    Calls Try.prog 27 #[.pointer (some ⟨g, 0, none⟩), .int .i64 n] w (Turns t S g (.int .i64 ((numS n s).1 : Nat)) (numS n s).2 w) := by
  obtain ⟨⟨x, k, e0⟩, ht⟩ : ∃ r, takeN s.bs = r := ⟨_, rfl⟩
  have hfit := takeN_fits s.bs hg.byt
  have hle := takeN_le s.bs hg.byt
  have hlen := hg.len
  have HE := Lib.hid (show numS n s = settleS x k (if e0 = 0 ∧ (n < 0 ∨ n < x) then 3 else e0) s by unfold numS; rw [ht])
  rw [ht] at hfit hle
  obtain ⟨hx, -, he3⟩ := hfit
  simp only at hx hle he3
  have HI := Lib.hid h
  obtain ⟨hS, A, cap, hb, hh⟩ := h
  obtain ⟨c0, -, -, -, -⟩ := cells5 hb
  have HT := Lib.hid (take_is A s.bs.length cap s.bs x k e0 w _ rfl (by omega) hg.byt hh.2.2.1 ht)
  clear ht hb hh
  obtain ⟨e1, he1⟩ : ∃ e1, (if e0 = 0 ∧ (n < 0 ∨ n < x) then 3 else e0) = e1 := ⟨_, rfl⟩
  rw [he1] at HE
  have HS := Lib.hid (settle_any x k e1 w HI.out hg (fun h => hle (by subst h; split at he1 <;> omega)))
  by_cases h0 : e0 = 0
  · subst h0
    by_cases h1 : n < 0
    · rw [if_pos ⟨rfl, .inl h1⟩] at he1
      subst he1
      have HV := Lib.hid (show (settleS x k 3 s).1 = 0 by rfl)
      go_enter Try.func27, Try.ntmps27
      go_wp2_with fail
      refine (HT.out).mono ?_
      rintro e w' ⟨rfl, rfl⟩
      go_wp2_with fail
      refine (HS.out).mono ?_
      rintro e w1 ⟨rfl, hi, hkp⟩
      rw [HV.out]
      go_wp2
      go_ret
      rw [HE.out]
      exact ⟨rfl, hi, hkp⟩
    · obtain ⟨N, rfl⟩ := Int.eq_ofNat_of_zero_le (show 0 ≤ n by omega)
      have hwr : IntKind.u64.wrap (N : Int) = (N : Int) := by rw [IntKind.wrap_u64]; omega
      by_cases h2 : N < x
      · rw [if_pos ⟨rfl, .inr (by omega)⟩] at he1
        subst he1
        have HV := Lib.hid (show (settleS x k 3 s).1 = 0 by rfl)
        go_enter Try.func27, Try.ntmps27
        go_wp2_with fail
        refine (HT.out).mono ?_
        rintro e w' ⟨rfl, rfl⟩
        go_wp2_with fail
        refine (HS.out).mono ?_
        rintro e w1 ⟨rfl, hi, hkp⟩
        rw [HV.out]
        go_wp2
        go_ret
        rw [HE.out]
        exact ⟨rfl, hi, hkp⟩
      · rw [if_neg (by omega)] at he1
        subst he1
        have HV := Lib.hid (show (settleS x k 0 s).1 = x by rfl)
        have hwx : IntKind.i64.wrap (x : Int) = (x : Int) := by rw [IntKind.wrap_i64]; omega
        have hNx : x ≤ N := by omega
        clear hn hx h2 h1 hle he3 hlen
        go_enter Try.func27, Try.ntmps27
        go_wp2_with fail
        refine (HT.out).mono ?_
        rintro e w' ⟨rfl, rfl⟩
        go_wp2_with fail
        refine (HS.out).mono ?_
        rintro e w1 ⟨rfl, hi, hkp⟩
        rw [HV.out]
        go_wp2
        go_ret
        rw [HE.out]
        exact ⟨rfl, hi, hkp⟩
  · rw [if_neg (by omega)] at he1
    subst he1
    have HV := Lib.hid (show (settleS x k e0 s).1 = 0 by unfold settleS; rw [if_pos h0])
    have h0' : ((e0 : Int) == 0) = false := by simp; omega
    go_enter Try.func27, Try.ntmps27
    go_wp2_with fail
    refine (HT.out).mono ?_
    rintro e w' ⟨rfl, rfl⟩
    go_wp2_with fail
    refine (HS.out).mono ?_
    rintro e w1 ⟨rfl, hi, hkp⟩
    rw [HV.out]
    go_wp2
    go_ret
    rw [HE.out]
    exact ⟨by rw [HV.out]; rfl, hi, hkp⟩

/-- a fault, in new memory alone -/
def Says (f : Int × Int) (w : World) (e : Ending) (w' : World) : Prop := e = .returned (.agg #[.int .i64 f.1, .int .i64 0, .int .i64 f.2]) ∧ Grow w w'
end Go.Proofs.Ytoapfegmipopkaa
