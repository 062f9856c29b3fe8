/-
  What the document's own Put comes to.
-/
import Derived.Test.YtoapfegmipopkaaSmall
namespace Go.Proofs.Ytoapfegmipopkaa
open Go.RowKit

theorem own_one (w : World) (D : Int) : (w.alloc (.cells #[.int .u8 D] 5)).ownsRow w.heap.size 5 1 (.slice (some ⟨w.heap.size, 0, none⟩) 1 1) 1 (u8s [D]) :=
  ⟨rfl, .inr ⟨w.heap.size, 1, #[.int .u8 D], rfl, Nat.le_refl _, heap_alloc_new w _, Nat.le_refl _, by unfold maxLen; omega, rfl, rfl⟩⟩

set_option maxRecDepth 10000 in
set_option maxHeartbeats 800000 in
theorem one_any (n : Nat) : n < 18446744073709551616 → ∀ w : World, Calls Try.prog 34 #[.int .u64 n] w (Gave (digs n) w) := by
  induction n using Nat.strongRecOn with
  | _ n ih =>
    intro hn w
    by_cases h : n < 128
    · have HD := Lib.hid (digs_lo h)
      have HN := Lib.hid (lit_nums w .u8 5 [(n : Int)])
      have hwr : IntKind.u8.wrap (n : Int) = (n : Int) := by rw [IntKind.wrap_u8']; omega
      clear ih
      go_enter Try.func34, Try.ntmps34
      go_wp2
      go_ret
      rw [HD.out]
      exact ⟨some ⟨w.heap.size, 0, none⟩, 1, rfl, by simp, HN.out, grow_new _ _⟩
    · have HI := Lib.hid (ih (n / 128) (by omega) (by omega))
      have HD := Lib.hid (digs_hi (show 128 ≤ n by omega))
      have hten := digs_ten (n := n / 128) (by omega)
      have HQ := Lib.hid (show ((n : Int) / 128) = ((n / 128 : Nat) : Int) by simp)
      have hm : ((n : Int) % 128 + 128) % 256 = ((n % 128 + 128 : Nat) : Int) := by omega
      have hw1 : IntKind.u8.wrap ((n : Int) % 128 + 128) = ((n % 128 + 128 : Nat) : Int) := by rw [IntKind.wrap_u8']; omega
      generalize n % 128 + 128 = D at *
      generalize digs (n / 128) = q at *
      obtain ⟨m, hml⟩ : ∃ m, q.length = m := ⟨_, rfl⟩
      rw [hml] at hten
      have HM := Lib.hid hml
      clear ih hml
      go_enter Try.func34, Try.ntmps34
      go_wp2_with fail
      rw [HQ.out]
      refine (HI.out _).mono ?_
      rintro e w2 ⟨A, cp, rfl, hA, hN, hb⟩
      have HO := Lib.hid (own_any (own_one w (D : Int)) hb)
      have HN := Lib.hid hN
      have hsz := hb.size
      have hsz' : w.heap.size ≤ w2.heap.size := (grow_alloc' hb).size
      have HB := Lib.hid (grow_alloc' hb)
      rw [HM.out]
      clear hN hsz hb
      go_wp2_with (at_builtin; refine wpList_append_bytes rfl _ _ rfl w.heap.size _ 1 m cp [(D : Int)] q A _ rfl HO.out rfl HM.out.symm hA HN.out (by omega) hsz' ?_; intro v3 w3 hown3 hb3)
      obtain ⟨A3, c3, rfl, hA3, hN3, hl3⟩ := own_nums hown3
      have HN3 := Lib.hid hN3
      have HL3 := Lib.hid hl3
      have HB3 := Lib.hid hb3
      clear hown3 hN3 hl3 hb3
      go_wp2
      go_ret
      have hl : (digs n).length = 1 + m := by rw [HD.out]; exact HL3.out
      refine ⟨A3, c3, by rw [hl]; rfl, hA3, ?_, Below.trans HB.out HB3.out⟩
      rw [HD.out]
      exact HN3.out

set_option maxRecDepth 10000 in
set_option maxHeartbeats 1600000 in
theorem rput_any (A1 A2 : Option Addr) (n m c1 c2 : Nat) (bs ls : List Int) (w : World) (h1 : bs.length = n) (h2 : ls.length = m) (hn : n ≤ 500) (hm : m ≤ 50) (e1 : A1 = none → c1 = 0)
    (u2 : U64 ls) (r1 : Nums .u8 w w.heap.size A1 bs) (r2 : Nums .u64 w w.heap.size A2 ls) : Calls Try.prog 24 #[.slice A1 n c1, .slice A2 m c2] w (Gave (bs ++ flat ls) w) := by
  have hfl := flat_len ls u2
  have hft : (flat ls).length ≤ 500 := by omega
  have H1 := Lib.hid h1
  have H2 := Lib.hid h2
  have R1 := Lib.hid r1
  have R2 := Lib.hid r2
  have U2 := Lib.hid u2
  have HE := Lib.hid (own_empty w)
  have hbn := grow_new w (.cells #[] 5)
  clear h1 h2 r1 r2 u2 hfl
  go_enter Try.func24, Try.ntmps24
  go_wp2_with (at_builtin; refine wpList_append_bytes rfl _ _ rfl w.heap.size _ 0 n c1 [] bs A1 _ rfl HE.out rfl H1.out.symm e1 (R1.out.below hbn) (by omega) (by simp) ?_; intro v2 w2 hown2 hb2)
  rw [Nat.zero_add, List.nil_append] at hown2
  have HO2 := Lib.hid hown2
  have HB2 := Lib.hid (Below.trans hbn hb2)
  clear hown2 hb2 hbn HE
  go_wp2
  go_loopw [5, 6] (fun v i wr => ∃ (k : Nat) (q : List Int), k ≤ m ∧ i = .int .i64 k ∧ q = bs ++ flat (ls.take k) ∧ wr.ownsRow w.heap.size 5 1 v q.length (u8s q) ∧ Grow w wr)
    (fun _ i _ => m - (intOf i).toNat)
  case atStart => exact ⟨0, bs, Nat.zero_le _, rfl, by simp [flat_nil], by rw [H1.out]; exact HO2.out, HB2.out⟩
  case round =>
    obtain ⟨k, q, hk, rfl, hq, hown, hbel⟩ := hrel
    by_cases hlt : k < m
    · have hkl : k < ls.length := by rw [H2.out]; exact hlt
      obtain ⟨b, off, rfl, hb, hcl⟩ := R2.out (by omega)
      have hcell := (hbel.cell (p := ⟨b, off + k, none⟩) hb).trans (hcl k hkl)
      have hX := U2.out.at_ k
      have hfin : q ++ digs (ls.getD k 0).toNat = bs ++ flat (ls.take (k + 1)) := by rw [hq, flat_take ls k hkl, List.append_assoc]
      have hql : q.length ≤ 1000 := by
        have := flat_le ls k
        have := H1.out
        rw [hq, List.length_append]
        omega
      clear hcl hq hkl
      generalize ls.getD k 0 = x at *
      obtain ⟨X, rfl⟩ := Int.eq_ofNat_of_zero_le hX.1
      rw [Int.toNat_natCast] at hfin
      have hten := digs_ten (n := X) (by omega)
      have HO := Lib.hid (one_any X (by omega))
      have HF := Lib.hid hfin
      have HOW := Lib.hid hown
      generalize digs X = d at *
      clear hfin hown
      go_wp2_with fail
      refine (HO.out _).mono ?_
      rintro e w3 ⟨A3, c3, rfl, hA3, hN3, hb3⟩
      have HOW3 := Lib.hid (own_any HOW.out hb3)
      have HN3 := Lib.hid hN3
      have hb03 : Grow w w3 := hbel.trans hb3
      clear hN3
      go_wp2_with (at_builtin; refine wpList_append_bytes rfl _ _ rfl w.heap.size _ q.length d.length c3 q d A3 _ rfl HOW3.out rfl rfl hA3 HN3.out (by omega) hb03.size ?_; intro v4 w4 hown4 hb4)
      have HO4 := Lib.hid hown4
      have HB4 := Lib.hid (show Grow w w4 from Below.trans hb03 hb4)
      clear hown4 hb4
      go_wp2
      go_roundw
      case rel => exact ⟨k + 1, q ++ d, by omega, by go_num, HF.out, by rw [List.length_append]; exact HO4.out, HB4.out⟩
      case measure => simp [intOf]; omega
    · have e : k = m := by omega
      subst e
      rw [List.take_of_length_le (by rw [H2.out]; exact Nat.le_refl _)] at hq
      obtain ⟨A3, c3, rfl, hA3, hN3, hl3⟩ := own_nums hown
      have HN3 := Lib.hid hN3
      have HQ := Lib.hid hq
      clear hown hN3 hq
      go_wp2
      go_ret
      exact ⟨A3, c3, by rw [← HQ.out]; rfl, hA3, by rw [← HQ.out]; exact HN3.out, hbel⟩
end Go.Proofs.Ytoapfegmipopkaa
