/-
  The law CursorNumbers at every input.
-/
import Derived.Test.YteijplolmpffmaaActs
namespace Go.Proofs.Yteijplolmpffmaa
open Go.RowKit

theorem put_one (A : Option Addr) (n cap N : Nat) (z : Int) (bs : List Int) (w : World) (hn : bs.length = n) (hl : n ≤ 100000) (hz : 0 ≤ z ∧ z < 18446744073709551616) (hc : A = none → cap = 0) (hr : Nums .u8 w w.heap.size A bs) (hN : (bs ++ digs z.toNat).length = N) :
    Calls Try.prog 29 #[.slice A n cap, .slice (some ⟨w.heap.size, 0, none⟩) 1 1] (w.alloc (.cells #[.int .u64 z] 49)) fun e w' => ∃ g, e = .returned (.slice (some ⟨g, 0, none⟩) N N) ∧ Nums .u8 w' w'.heap.size (some ⟨g, 0, none⟩) (bs ++ digs z.toNat) ∧ Grow w w' := by
  subst hN
  have h := put_new A (some ⟨w.heap.size, 0, none⟩) n 1 cap 1 bs [z] (w.alloc (.cells ([z].map (Value.int .u64)).toArray 49)) hn.symm rfl (by omega) (by decide) (by intro y hy; simp at hy; subst hy; exact hz) hc (hr.grow (grow_new _ _)) (lit_nums w .u64 49 [z])
  rw [flat_one] at h
  refine h.mono ?_
  rintro e w' ⟨g, he, hrow, hg, _⟩
  exact ⟨g, he, Nums.of_row hrow, grow_alloc' hg⟩

/-- how a number is laid: its Zig, and itself, if it has no sign -/
def lay (n : Int) : List Int := digs (zigN n).toNat ++ if 0 ≤ n then digs n.toNat else []
def laid (l : List Int) : List Int := (l.map lay).flatten
theorem laid_nil : laid [] = [] := rfl
theorem laid_app (a b : List Int) : laid (a ++ b) = laid a ++ laid b := by simp [laid]
theorem laid_one (n : Int) : laid [n] = lay n := by simp [laid]
theorem laid_cons (n : Int) (l : List Int) : laid (n :: l) = lay n ++ laid l := by simp [laid]
theorem laid_take (l : List Int) (k : Nat) (hk : k < l.length) : laid (l.take (k + 1)) = laid (l.take k) ++ lay (l.getD k 0) := by rw [take_one l k hk, laid_app, laid_one]
theorem laid_drop (l : List Int) (k : Nat) (hk : k < l.length) : laid (l.drop k) = lay (l.getD k 0) ++ laid (l.drop (k + 1)) := by rw [drop_cons_ l k hk, laid_cons]
def In64 (l : List Int) : Prop := ∀ x ∈ l, -9223372036854775808 ≤ x ∧ x < 9223372036854775808
theorem In64.at_ {a : List Int} (h : In64 a) (i : Nat) : -9223372036854775808 ≤ a.getD i 0 ∧ a.getD i 0 < 9223372036854775808 := by
  by_cases hi : i < a.length
  · exact h _ (by simp [hi])
  · simp [List.getElem?_eq_none (show a.length ≤ i by omega)]
theorem lay_len {n : Int} (h : -9223372036854775808 ≤ n ∧ n < 9223372036854775808) : (lay n).length ≤ 20 := by
  have hz := zig_lt h.1 h.2
  have h1 := digs_ten (n := (zigN n).toNat) (by omega)
  have h2 : (if 0 ≤ n then digs n.toNat else []).length ≤ 10 := by
    split
    · exact digs_ten (by omega)
    · simp
  unfold lay
  rw [List.length_append]
  omega
theorem lay_byt (n : Int) : Byt (lay n) := by
  unfold lay
  refine (digs_byt _).app ?_
  split
  · exact digs_byt _
  · exact byt_nil
theorem laid_byt (l : List Int) : Byt (laid l) := by
  induction l with
  | nil => exact byt_nil
  | cons n l ih => rw [laid_cons]; exact (lay_byt n).app ih
theorem laid_len (l : List Int) (h : In64 l) : (laid l).length ≤ 20 * l.length := by
  induction l with
  | nil => simp [laid_nil]
  | cons n l ih =>
    have := lay_len (h n (by simp))
    have := ih (fun x hx => h x (by simp [hx]))
    rw [laid_cons, List.length_append, List.length_cons]
    omega
theorem laid_le (l : List Int) (k : Nat) : (laid (l.take k)).length + (laid (l.drop k)).length = (laid l).length := by
  conv => rhs; rw [← List.take_append_drop k l, laid_app, List.length_append]

/-- a number that was laid is read as it was -/
theorem intS_lay (n : Int) (rest : List Int) (p : Int) (h : -9223372036854775808 ≤ n ∧ n < 9223372036854775808) : intS ⟨digs (zigN n).toNat ++ rest, p, 0, 0⟩ = (n, ⟨rest, p + (digs (zigN n).toNat).length, 0, 0⟩) := by
  have hz := zig_lt h.1 h.2
  have ht := takeN_back (zigN n).toNat rest (by omega)
  have hq : (((zigN n).toNat : Nat) : Int) = zigN n := by omega
  unfold intS
  simp only [ht, settleS]
  simp [passS, hq, zag_zig]
theorem numS_lay (n : Int) (rest : List Int) (p : Int) (h : 0 ≤ n ∧ n < 9223372036854775808) : numS n ⟨digs n.toNat ++ rest, p, 0, 0⟩ = (n.toNat, ⟨rest, p + (digs n.toNat).length, 0, 0⟩) := by
  have ht := takeN_back n.toNat rest (by omega)
  unfold numS
  simp only [ht]
  rw [if_neg (by omega)]
  simp [settleS, passS]

set_option maxRecDepth 10000 in
set_option maxHeartbeats 800000 in
theorem numbers_no (A1 A2 : Option Addr) (n m c1 c2 : Nat) (w : World) (h1 : n ≤ 9223372036854775807) (h2 : m ≤ 9223372036854775807) (h : ¬ (n ≤ 50 ∧ m ≤ 200)) :
    Calls Try.prog 4 #[.slice A1 n c1, .slice A2 m c2] w (Fine w) := by
  have HS := Lib.hid (small_any w)
  by_cases hn : n ≤ 50
  · have hm : 200 < m := by omega
    clear h
    go_enter Try.func4, Try.ntmps4
    go_wp2_with fail
    refine (HS.out).mono ?_
    rintro e w1 ⟨rfl, hb1⟩
    go_wp2
    go_ret
    exact ⟨rfl, hb1⟩
  · have hn' : 50 < n := by omega
    clear h hn
    go_enter Try.func4, Try.ntmps4
    go_wp2_with fail
    refine (HS.out).mono ?_
    rintro e w1 ⟨rfl, hb1⟩
    go_wp2
    go_ret
    exact ⟨rfl, hb1⟩

theorem int_lay {t : TypeId} {S : Nat → Prop} {g : Nat} (n : Int) (rest : List Int) (p : Int) (w : World) (h : IsC t S w g ⟨digs (zigN n).toNat ++ rest, p, 0, 0⟩) (hg : Good ⟨digs (zigN n).toNat ++ rest, p, 0, 0⟩) (hn : -9223372036854775808 ≤ n ∧ n < 9223372036854775808) :
    Calls Try.prog 15 #[.pointer (some ⟨g, 0, none⟩)] w (Turns t S g (.int .i64 n) ⟨rest, p + (digs (zigN n).toNat).length, 0, 0⟩ w) := by
  have H := int_any w h hg
  rw [intS_lay n rest p hn] at H
  exact H
theorem num_lay {t : TypeId} {S : Nat → Prop} {g : Nat} (n : Int) (rest : List Int) (p : Int) (w : World) (h : IsC t S w g ⟨digs n.toNat ++ rest, p, 0, 0⟩) (hg : Good ⟨digs n.toNat ++ rest, p, 0, 0⟩) (hn : 0 ≤ n ∧ n < 9223372036854775808) :
    Calls Try.prog 13 #[.pointer (some ⟨g, 0, none⟩), .int .i64 n] w (Turns t S g (.int .i64 n) ⟨rest, p + (digs n.toNat).length, 0, 0⟩ w) := by
  have H := num_any n w h hg hn.2
  rw [numS_lay n rest p hn] at H
  have e : ((n.toNat : Nat) : Int) = n := by omega
  rw [e] at H
  exact H

set_option linter.unusedSimpArgs false
set_option maxRecDepth 10000 in
set_option maxHeartbeats 3200000 in
theorem numbers_yes (A1 A2 : Option Addr) (n m c1 c2 : Nat) (l ms : List Int) (w : World) (h1 : l.length = n) (h2 : ms.length = m) (hn : n ≤ 50) (hm : m ≤ 200) (e2 : A2 = none → c2 = 0)
    (i1 : In64 l) (b2 : Byt ms) (r1 : Nums .i64 w w.heap.size A1 l) (r2 : Nums .u8 w w.heap.size A2 ms) : Calls Try.prog 4 #[.slice A1 n c1, .slice A2 m c2] w (Fine w) := by
  have hll := laid_len l i1
  have HS := Lib.hid (small_any w)
  have H1 := Lib.hid h1
  have H2 := Lib.hid h2
  have R1 := Lib.hid r1
  have R2 := Lib.hid r2
  have I1 := Lib.hid i1
  have B2 := Lib.hid b2
  obtain ⟨N, hN⟩ : ∃ N, (laid l).length = N := ⟨_, rfl⟩
  have hNl : N ≤ 1000 := by omega
  have HN := Lib.hid hN
  clear h1 h2 r1 r2 i1 b2 hll hN
  go_enter Try.func4, Try.ntmps4
  go_wp2_with fail
  refine (HS.out).mono ?_
  rintro e w1 ⟨rfl, hb1⟩
  have HB1 := Lib.hid hb1
  clear hb1 HS
  go_wp2_with fail
  go_loopg [6, 7] n (fun gk v i wr => ∃ (k q : Nat) (A : Option Addr) (cap : Nat), k ≤ n ∧ gk = n - k ∧ i = .int .i64 k ∧ v = .slice A q cap ∧ (laid (l.take k)).length = q ∧ (A = none → cap = 0) ∧ Nums .u8 wr wr.heap.size A (laid (l.take k)) ∧ Grow w wr)
  case atStart => exact ⟨0, 0, none, 0, Nat.zero_le _, rfl, rfl, rfl, rfl, fun _ => rfl, Nums.none_, HB1.out⟩
  case round =>
    obtain ⟨k, q, A, cap, hk, rfl, rfl, rfl, hq, hA, hNm, hbr⟩ := hrel
    have HNm := Lib.hid hNm
    have HBR := Lib.hid hbr
    have hql : q ≤ 1000 := by have := laid_le l k; have := HN.out; omega
    have HQ := Lib.hid hq
    clear hNm hbr hq HB1
    by_cases hlt : k < n
    · have hkl : k < l.length := by rw [H1.out]; exact hlt
      obtain ⟨b, off, rfl, hb, hcl⟩ := R1.out (by omega)
      have hI := I1.out.at_ k
      have hcell := (HBR.out.cell (p := ⟨b, off + k, none⟩) hb).trans (hcl k hkl)
      have HT := Lib.hid (laid_take l k hkl)
      have HCL := Lib.hid (fun wx (hx : Grow w wx) => (hx.cell (p := ⟨b, off + k, none⟩) hb).trans (hcl k hkl))
      clear hcl
      generalize l.getD k 0 = x at *
      have hz := zig_lt hI.1 hI.2
      have HZ := Lib.hid (zig_any x wr hI.1 hI.2)
      obtain ⟨z, hzq⟩ : ∃ z, zigN x = z := ⟨_, rfl⟩
      rw [hzq] at hz HZ
      have HZQ := Lib.hid hzq
      clear hzq
      obtain ⟨q2, hq2⟩ : ∃ q2, (laid (l.take k) ++ digs z.toNat).length = q2 := ⟨_, rfl⟩
      have HQ2 := Lib.hid hq2
      have hq2l : q2 ≤ 2000 := by have := digs_ten (n := z.toNat) (by omega); rw [List.length_append, HQ.out] at hq2; omega
      clear hq2
      by_cases hneg : x < 0
      · have HT2 := Lib.hid (show laid (l.take (k + 1)) = laid (l.take k) ++ digs z.toNat by rw [HT.out, lay, HZQ.out, if_neg (by omega), List.append_nil])
        go_wp2_with fail
        refine (HZ.out).mono ?_
        rintro e w' ⟨rfl, rfl⟩
        go_wp2_with fail
        refine (put_one A q cap q2 z (laid (l.take k)) _ HQ.out (by omega) hz hA HNm.out HQ2.out).mono ?_
        rintro e w3 ⟨g, rfl, hn3, hb3⟩
        have HN3 := Lib.hid hn3
        have HB3 := Lib.hid (HBR.out.trans hb3)
        have hcell3 := HCL.out w3 HB3.out
        clear hn3 hb3 hcell
        go_wp2_with fail
        go_roundg (n - (k + 1))
        case measure => omega
        case rel => exact ⟨k + 1, q2, some ⟨g, 0, none⟩, q2, by omega, rfl, by go_num, rfl, by rw [HT2.out]; exact HQ2.out, by simp, by rw [HT2.out]; exact HN3.out, HB3.out⟩
      · have hx0 : 0 ≤ x := by omega
        obtain ⟨q3, hq3⟩ : ∃ q3, ((laid (l.take k) ++ digs z.toNat) ++ digs x.toNat).length = q3 := ⟨_, rfl⟩
        have HQ3 := Lib.hid hq3
        have HT2 := Lib.hid (show laid (l.take (k + 1)) = (laid (l.take k) ++ digs z.toNat) ++ digs x.toNat by rw [HT.out, lay, HZQ.out, if_pos hx0, List.append_assoc])
        have hwx : IntKind.u64.wrap x = x := by rw [IntKind.wrap_u64]; omega
        clear hq3
        go_wp2_with fail
        refine (HZ.out).mono ?_
        rintro e w' ⟨rfl, rfl⟩
        go_wp2_with fail
        refine (put_one A q cap q2 z (laid (l.take k)) _ HQ.out (by omega) hz hA HNm.out HQ2.out).mono ?_
        rintro e w3 ⟨g, rfl, hn3, hb3⟩
        have HN3 := Lib.hid hn3
        have HB3 := Lib.hid (HBR.out.trans hb3)
        have hcell3 := HCL.out w3 HB3.out
        clear hn3 hb3 hcell
        go_wp2_with fail
        refine (put_one (some ⟨g, 0, none⟩) q2 q2 q3 x _ _ HQ2.out (by omega) ⟨hx0, by omega⟩ (by simp) HN3.out HQ3.out).mono ?_
        rintro e w4 ⟨g4, rfl, hn4, hb4⟩
        have HN4 := Lib.hid hn4
        have HB4 := Lib.hid (HB3.out.trans hb4)
        clear hn4 hb4 hcell3
        go_wp2_with fail
        go_roundg (n - (k + 1))
        case measure => omega
        case rel => exact ⟨k + 1, q3, some ⟨g4, 0, none⟩, q3, by omega, rfl, by go_num, rfl, by rw [HT2.out]; exact HQ3.out, by simp, by rw [HT2.out]; exact HN4.out, HB4.out⟩
    · obtain rfl : k = n := by omega
      have e0 : l.take k = l := List.take_of_length_le (by rw [H1.out]; exact Nat.le_refl _)
      rw [e0] at HNm HQ
      obtain rfl : N = q := HN.out.symm.trans HQ.out
      have R2' := Lib.hid (R2.out.grow HBR.out)
      have HE := Lib.hid (own_empty wr)
      have hbn := grow_new wr (.cells #[] 5)
      have HBN := Lib.hid hbn
      clear e0 HQ hlt hbn
      go_wp2_with (first
        | (at_builtin; refine wpList_append_bytes rfl _ _ rfl wr.heap.size _ 0 N cap [] (laid l) A _ rfl HE.out rfl HN.out.symm hA (HNm.out.grow HBN.out) (by omega) (by simp) ?_; intro v2 w2 hown2 hb2; have hg2 : Grow wr w2 := Below.trans HBN.out hb2; rw [Nat.zero_add, List.nil_append] at hown2; have HO2 := Lib.hid hown2; have HG2 := Lib.hid hg2; have hsz2 := hg2.size; clear hown2 hb2 hg2)
        | (at_builtin; refine wpList_append_bytes rfl _ _ rfl wr.heap.size _ N m c2 (laid l) ms A2 _ rfl HO2.out rfl H2.out.symm e2 (R2'.out.grow HG2.out) (by omega) hsz2 ?_; intro v3 w3 hown3 hb3; have hg3 : Grow wr w3 := Below.trans HG2.out hb3; (obtain ⟨A3, c3, rfl, hA3, hN3, hl3⟩ := own_nums hown3); have HN3 := Lib.hid hN3; have HL3 := Lib.hid hl3; have HG3 := Lib.hid hg3; clear hown3 hb3 hg3 hN3 hl3 HO2 HG2 hsz2))
      refine (open_any A3 (N + m) c3 (laid l ++ ms) 7 w3 HL3.out (by omega) hA3 HN3.out).mono ?_
      rintro e w4 ⟨c, rfl, hc1, hc2, hb4, HC⟩
      have HB4 := Lib.hid ((HBR.out.trans HG3.out).trans hb4)
      have hcw : w.heap.size ≤ c := Nat.le_trans (HBR.out.trans HG3.out).size hc1
      have IC := Lib.hid (show IsC 44 (fun k => k = c) w4 c ⟨laid (l.drop 0) ++ ms, 7 + (laid (l.take 0)).length, 0, 0⟩ from HC (fun k => k = c) rfl (fun k hk => .inr (.inl hk)))
      have R1'' := Lib.hid (R1.out.below HB4.out)
      have R2'' := Lib.hid (R2.out.below HB4.out)
      have HSW := Lib.hid (show ∀ k, k = c → w.heap.size ≤ k by intro k hk; omega)
      clear HC hb4 R1 R2 R2' HN3 HL3 HG3 hA3 HNm HE HBN
      go_wp2_with fail
      go_loopg [9] k (fun gk v wr => ∃ j : Nat, j ≤ k ∧ gk = k - j ∧ v = .int .i64 j ∧ IsC 44 (fun k => k = c) wr c ⟨laid (l.drop j) ++ ms, 7 + (laid (l.take j)).length, 0, 0⟩ ∧ Kept (fun k => k = c) w4 wr)
      case atStart => exact ⟨0, Nat.zero_le _, rfl, rfl, IC.out, Kept.refl _ _⟩
      case round =>
        obtain ⟨j, hj, rfl, rfl, ic, kp⟩ := hrel
        have ICX := Lib.hid ic
        have KP := Lib.hid kp
        clear ic kp IC
        have htot := laid_le l j
        rw [HN.out] at htot
        by_cases hlt : j < k
        · have hkl : j < l.length := by rw [H1.out]; exact hlt
          obtain ⟨b, off, rfl, hb, hcl⟩ := R1''.out (by omega)
          have hI := I1.out.at_ j
          have HCL := Lib.hid (fun wy (hy : Kept (fun k => k = c) w4 wy) => (hy.cell (p := ⟨b, off + j, none⟩) (Nat.lt_of_lt_of_le hb HB4.out.size) (by show ¬ b = c; omega)).trans (hcl j hkl))
          have HT := Lib.hid (laid_take l j hkl)
          have hD := laid_drop l j hkl
          have hDl : (laid (l.drop j)).length = (lay (l.getD j 0)).length + (laid (l.drop (j + 1))).length := by rw [hD, List.length_append]
          have HDB := Lib.hid (laid_byt (l.drop (j + 1)))
          clear hcl
          generalize l.getD j 0 = x at *
          rw [hD] at ICX
          obtain ⟨P, hP⟩ : ∃ P, 7 + ((laid (l.take j)).length : Int) = P := ⟨_, rfl⟩
          rw [hP] at ICX
          have HP := Lib.hid hP
          have hPl : 7 ≤ P ∧ P ≤ 2000 := by omega
          obtain ⟨R, hR⟩ : ∃ R, laid (l.drop (j + 1)) = R := ⟨_, rfl⟩
          rw [hR] at ICX HDB
          have HR := Lib.hid hR
          have hRl : R.length ≤ 1000 := by rw [hR] at hDl; omega
          clear hD hDl hP hR htot
          have hz := zig_lt hI.1 hI.2
          have hlz := digs_ten (n := (zigN x).toNat) (by omega)
          have hcell := HCL.out wr KP.out
          by_cases hneg : x < 0
          · have HLY := Lib.hid (show lay x = digs (zigN x).toNat by rw [lay, if_neg (by omega), List.append_nil])
            rw [HLY.out, List.append_assoc] at ICX
            have HG := Lib.hid (show Good ⟨digs (zigN x).toNat ++ (R ++ ms), P, 0, 0⟩ from ⟨(digs_byt _).app (HDB.out.app B2.out), by show 0 ≤ P; omega, by show P + ((digs (zigN x).toNat ++ (R ++ ms)).length : Nat) ≤ _; rw [List.length_append, List.length_append, H2.out]; omega, fun h => absurd rfl h⟩)
            go_wp2_with fail
            refine (int_lay x (R ++ ms) P wr ICX.out HG.out hI).mono ?_
            rintro e w5 ⟨rfl, ic, k5⟩
            have IC5 := Lib.hid ic
            have K5 := Lib.hid (KP.out.trans k5)
            have hcell5 := HCL.out w5 K5.out
            clear ic k5 hcell ICX
            go_wp2_with fail
            go_roundg (k - (j + 1))
            case measure => omega
            case rel => exact ⟨j + 1, by omega, rfl, by go_num, by rw [HR.out, HT.out, HLY.out, List.length_append, Int.natCast_add, ← Int.add_assoc, HP.out]; exact IC5.out, K5.out⟩
          · have hx0 : 0 ≤ x := by omega
            have HLY := Lib.hid (show lay x = digs (zigN x).toNat ++ digs x.toNat by rw [lay, if_pos hx0])
            rw [HLY.out, List.append_assoc, List.append_assoc] at ICX
            have hlx := digs_ten (n := x.toNat) (by omega)
            have HG := Lib.hid (show Good ⟨digs (zigN x).toNat ++ (digs x.toNat ++ (R ++ ms)), P, 0, 0⟩ from ⟨(digs_byt _).app ((digs_byt _).app (HDB.out.app B2.out)), by show 0 ≤ P; omega, by show P + ((digs (zigN x).toNat ++ (digs x.toNat ++ (R ++ ms))).length : Nat) ≤ _; rw [List.length_append, List.length_append, List.length_append, H2.out]; omega, fun h => absurd rfl h⟩)
            obtain ⟨Q, hQ⟩ : ∃ Q, P + ((digs (zigN x).toNat).length : Int) = Q := ⟨_, rfl⟩
            have HQ := Lib.hid hQ
            have HG2 := Lib.hid (show Good ⟨digs x.toNat ++ (R ++ ms), Q, 0, 0⟩ from ⟨(digs_byt _).app (HDB.out.app B2.out), by show 0 ≤ Q; omega, by show Q + ((digs x.toNat ++ (R ++ ms)).length : Nat) ≤ _; rw [List.length_append, List.length_append, H2.out]; omega, fun h => absurd rfl h⟩)
            clear hQ
            go_wp2_with fail
            refine (int_lay x (digs x.toNat ++ (R ++ ms)) P wr ICX.out HG.out hI).mono ?_
            rintro e w5 ⟨rfl, ic, k5⟩
            rw [HQ.out] at ic
            have IC5 := Lib.hid ic
            have K5 := Lib.hid (KP.out.trans k5)
            have hcell5 := HCL.out w5 K5.out
            clear ic k5 hcell ICX
            go_wp2_with fail
            refine (num_lay x (R ++ ms) Q w5 IC5.out HG2.out ⟨hx0, hI.2⟩).mono ?_
            rintro e w6 ⟨rfl, ic, k6⟩
            have IC6 := Lib.hid ic
            have K6 := Lib.hid (K5.out.trans k6)
            have hcell6 := HCL.out w6 K6.out
            clear ic k6 hcell5 IC5
            go_wp2_with fail
            go_roundg (k - (j + 1))
            case measure => omega
            case rel => exact ⟨j + 1, by omega, rfl, by go_num, by rw [HR.out, HT.out, HLY.out, List.length_append, List.length_append, Int.natCast_add, Int.natCast_add, ← Int.add_assoc, ← Int.add_assoc, HP.out, HQ.out]; exact IC6.out, K6.out⟩
        · obtain rfl : j = k := by omega
          have e0 : l.take j = l := List.take_of_length_le (by rw [H1.out]; exact Nat.le_refl _)
          have e1 : l.drop j = [] := List.drop_of_length_le (by rw [H1.out]; exact Nat.le_refl _)
          rw [e0, e1, laid_nil, List.nil_append, HN.out] at ICX
          have HG := Lib.hid (show Good ⟨ms, 7 + (N : Int), 0, 0⟩ from ⟨B2.out, by show 0 ≤ 7 + (N : Int); omega, by show 7 + (N : Int) + (ms.length : Nat) ≤ _; rw [H2.out]; omega, fun h => absurd rfl h⟩)
          have HTK := Lib.hid (show takeS (m : Int) ⟨ms, 7 + (N : Int), 0, 0⟩ = (ms, ⟨[], 7 + (N : Int) + (m : Nat), 0, 0⟩) by
            have h0 := H2.out
            unfold takeS
            rw [if_neg (by simp [h0])]
            simp [passS, ← h0])
          have HC2 := Lib.hid (take_c (t := 44) (S := fun k => k = c) (g := c) (m : Int) wr ICX.out HG.out)
          rw [HTK.out] at HC2
          clear e0 e1 htot hlt
          go_wp2_with fail
          refine (at_1 wr ICX.out _ rfl).mono ?_
          rintro e w' ⟨rfl, rfl⟩
          go_wp2_with fail
          refine (left_1 wr ICX.out m H2.out).mono ?_
          rintro e w' ⟨rfl, rfl⟩
          go_wp2_with fail
          refine (HC2.out).mono ?_
          rintro e w5 ⟨v, ho, rfl, ic, k5⟩
          obtain ⟨A5, c5, rfl, _, hN5, hl5⟩ := own_nums ho
          have IC5 := Lib.hid ic
          have K5 := Lib.hid (KP.out.trans k5)
          have HN5 := Lib.hid hN5
          rw [H2.out]
          clear ic k5 ho hN5 hl5 ICX HC2
          go_wp2_with fail
          refine (end_1 w5 IC5.out ⟨byt_nil, by show 0 ≤ 7 + (N : Int) + (m : Nat); omega, by show 7 + (N : Int) + (m : Nat) + (0 : Nat) ≤ _; omega, fun h => absurd rfl h⟩ 0 0 rfl).mono ?_
          rintro e w6 ⟨rfl, hb6⟩
          have hK6 := K5.out.trans (Kept.of_grow hb6)
          have hs1 := conv_any (k := 22) c5 ((HN5.out.grow hb6).grow (grow_new _ (.cells #[.int .i64 0, .int .i64 0, .int .i64 0] 40))) rfl
          have hs2 := conv_any (k := 22) c2 (((R2''.out.keep_ HB4.out.size hK6 HSW.out).more (Nat.le_trans HB4.out.size hK6.size)).grow (grow_new _ (.cells #[.int .i64 0, .int .i64 0, .int .i64 0] 40))) rfl
          rw [H2.out] at hs1 hs2
          generalize hst : strOfNums ms = st at *
          have HB6 := Lib.hid (Kept.grow HB4.out hK6 HSW.out)
          clear hst hb6 hK6
          go_wp2
          go_ret
          exact ⟨rfl, HB6.out.trans (grow_new _ _)⟩

theorem numbers_walk (A1 A2 : Option Addr) (n m c1 c2 : Nat) (l ms : List Int) (w : World) (h1 : l.length = n) (h2 : ms.length = m) (hn : n ≤ 9223372036854775807) (hm : m ≤ 9223372036854775807) (e2 : A2 = none → c2 = 0)
    (i1 : In64 l) (b2 : Byt ms) (r1 : Nums .i64 w w.heap.size A1 l) (r2 : Nums .u8 w w.heap.size A2 ms) : Calls Try.prog 4 #[.slice A1 n c1, .slice A2 m c2] w (Fine w) := by
  by_cases h : n ≤ 50 ∧ m ≤ 200
  · exact numbers_yes A1 A2 n m c1 c2 l ms w h1 h2 h.1 h.2 e2 i1 b2 r1 r2
  · exact numbers_no A1 A2 n m c1 c2 w hn hm h
end Go.Proofs.Yteijplolmpffmaa
