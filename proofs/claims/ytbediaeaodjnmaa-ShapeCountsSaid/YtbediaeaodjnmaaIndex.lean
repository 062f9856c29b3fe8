/-
  What shape.Index comes to, called with any numbers.
-/
import Derived.Test.YtbediaeaodjnmaaPlaces
namespace Go.Proofs.Ytbediaeaodjnmaa
open Go.RowKit Go.Lib
set_option linter.unusedSimpArgs false
set_option linter.unusedVariables false

theorem digs_at (i : Nat) : ∀ (ns : List Nat) (t : Nat), t < ns.length → (digs ns i).getD t 0 = i / prodN (ns.drop (t + 1)) % ns.getD t 0
  | [], _, h => absurd h (by simp)
  | x :: ns, 0, _ => by simp [digs]
  | x :: ns, t + 1, h => by
    have := digs_at i ns t (by simpa using h)
    simpa [digs] using this
theorem indB_cnt (xs : List Int) (i : Int) : indB xs i = (decide (0 ≤ i) && decide (i < ((cnt xs : Nat) : Int))) := by
  unfold indB
  cases hb : rightB xs with
  | false =>
    rw [cnt_no hb]
    by_cases h : 0 ≤ i
    · have : ¬ i < ((0 : Nat) : Int) := by omega
      simp [this]
    · simp [h]
  | true => rw [cnt_yes hb]; rfl
theorem ind_no {xs : List Int} {i : Int} (h : indB xs i = false) : ind xs i = [] := by simp [ind, h]
theorem ind_yes {xs : List Int} {i : Int} (h : indB xs i = true) : ind xs i = ofN (digs (toN xs) i.toNat) := by simp [ind, h]
/-- the number at the place t -/
def dAt (xs : List Int) (i t : Nat) : Nat := i / prodN (toN (xs.drop (t + 1))) % (toN xs).getD t 0
theorem toN_drop (xs : List Int) (k : Nat) : toN (xs.drop k) = (toN xs).drop k := by simp [toN, List.map_drop]
theorem toN_at {xs : List Int} {k m : Nat} (h : k < xs.length) (e : xs.getD k 0 = (m : Nat)) : (toN xs).getD k 0 = m := by
  have e1 : xs[k] = (m : Nat) := by simpa [List.getD, h] using e
  simp [toN, List.getD, h, e1]
theorem dAt_row {xs : List Int} {n i : Nat} (hn : xs.length = n) {w : World} {g : Nat} (h : w.rowIs g 3 n fun t => .int .i64 ((dAt xs i t : Nat) : Int)) :
    Nums .i64 w w.heap.size (some ⟨g, 0, none⟩) (ofN (digs (toN xs) i)) := by
  have hl : (ofN (digs (toN xs) i)).length = n := by rw [ofN_len, digs_len, toN_len, hn]
  refine Nums.of_row (t := 3) ?_
  rw [hl]
  refine h.congr fun t ht => ?_
  have htl : t < (toN xs).length := by rw [toN_len, hn]; exact ht
  have e1 := digs_at i (toN xs) t htl
  have e2 : t < (digs (toN xs) i).length := by rw [digs_len]; exact htl
  have e3 : (ofN (digs (toN xs) i)).getD t 0 = (((digs (toN xs) i).getD t 0 : Nat) : Int) := by simp [ofN, List.getD, e2]
  rw [e3, e1]
  unfold dAt
  rw [toN_drop]
def Indexed (xs : List Int) (i : Int) (w : World) (e : Ending) (w' : World) : Prop :=
  ∃ A', e = .returned (.tuple #[.slice A' (ind xs i).length (ind xs i).length, .bool (indB xs i)]) ∧ Nums .i64 w' w'.heap.size A' (ind xs i) ∧ Grow w w'
theorem i_info3 : (Try.prog.info? 3).map (fun i => (i.zero, i.size, i.bytes)) = some (some (.int .i64 0), 1, 8) := by kernel_rfl
theorem idx_step {xs : List Int} {n i t m I : Nat} {wr : World} {g : Nat} (ht : t < xs.length) (e : xs.getD t 0 = (m : Nat)) (hI : I = i / prodN (toN (xs.drop (t + 1))))
    (h : wr.rowIs g 3 n fun s => .int .i64 ((if s < t + 1 then 0 else dAt xs i s : Nat) : Int)) :
    (wr.setCell ⟨g, t, none⟩ (.int .i64 ((I % m : Nat) : Int))).rowIs g 3 n fun s => .int .i64 ((if s < t then 0 else dAt xs i s : Nat) : Int) := by
  refine (h.set t _).congr fun s _ => ?_
  by_cases hs : s = t
  · subst hs
    have : dAt xs i s = I % m := by unfold dAt; rw [toN_at ht e, hI]
    simp [this]
  · have : (s < t + 1) ↔ (s < t) := by omega
    simp only [hs, if_false, this]

theorem nope {i : Int} {C : Nat} (h : i < 0 ∨ ((C : Nat) : Int) ≤ i) : (decide (0 ≤ i) && decide (i < ((C : Nat) : Int))) = false := by
  rw [Bool.and_eq_false_iff]
  simp only [decide_eq_false_iff_not]
  omega

set_option maxRecDepth 10000 in
set_option maxHeartbeats 3200000 in
theorem index_any (A : Option Addr) (n c : Nat) (xs : List Int) (i : Int) (w : World) (hn : xs.length = n) (hm : n ≤ 9223372036854775807) (hr : Nums .i64 w w.heap.size A xs) (hi : -9223372036854775808 ≤ i ∧ i ≤ 9223372036854775807) :
    Calls Try.prog 13 #[.slice A n c, .int .i64 i] w (Indexed xs i w) := by
  have HR := Lib.hid hr
  have HN := Lib.hid hn
  have HCO := Lib.hid (count_any A n c xs w hn hm hr)
  clear hr hn
  obtain ⟨C, hC⟩ : ∃ C, cnt xs = C := ⟨_, rfl⟩
  have HIB := Lib.hid (indB_cnt xs i)
  rw [hC] at HCO HIB
  have HC := Lib.hid hC
  clear hC

  by_cases h0 : i < 0
  · have HB : Hid (indB xs i = false) := Lib.hid (by rw [HIB.out]; exact nope (by omega))
    have HI := Lib.hid (ind_no HB.out)
    go_enter Try.func13, Try.ntmps13
    go_wp2_with fail
    refine (HCO.out).mono ?_
    rintro e w2 ⟨rfl, rfl⟩
    go_wp2
    go_ret2
    exact ⟨none, by rw [HB.out, HI.out]; rfl, by rw [HI.out]; exact Nums.none_, Grow.refl _⟩
  by_cases h1 : ((C : Nat) : Int) ≤ i
  · have HB : Hid (indB xs i = false) := Lib.hid (by rw [HIB.out]; exact nope (by omega))
    have HI := Lib.hid (ind_no HB.out)
    go_enter Try.func13, Try.ntmps13
    go_wp2_with fail
    refine (HCO.out).mono ?_
    rintro e w2 ⟨rfl, rfl⟩
    go_wp2
    go_ret2
    exact ⟨none, by rw [HB.out, HI.out]; rfl, by rw [HI.out]; exact Nums.none_, Grow.refl _⟩
  obtain ⟨i, rfl⟩ : ∃ k : Nat, i = (k : Nat) := ⟨i.toNat, by omega⟩
  have HB : Hid (indB xs (i : Nat) = true) := Lib.hid (by
    rw [HIB.out]
    have h2 : (0 : Int) ≤ ((i : Nat) : Int) := by omega
    have h3 : ((i : Nat) : Int) < ((C : Nat) : Int) := by omega
    simp only [h2, h3, decide_true, Bool.and_self])
  have HI := Lib.hid (ind_yes HB.out)
  rw [Int.toNat_natCast] at HI
  obtain ⟨hRB, hP0, hPB, hCP⟩ := right_of_cnt (xs := xs) (by rw [HC.out]; omega)
  have hiC : i < 1048576 := by rw [HC.out] at hCP; omega
  have HP0 := Lib.hid hP0
  have HAL := Lib.hid (right_iff.1 hRB).2.1
  have h16 : n ≤ 16 := by rw [← HN.out]; exact (right_iff.1 hRB).1

  clear hRB hP0 hPB hCP
  have hmk := fun W => run_make_row' (P := Try.prog) 22 3 (.int .i64 0) 8 Try.underlying22 i_info3 rfl .i64 .i64 n (by omega) (by omega) W
  go_enter Try.func13, Try.ntmps13
  go_wp2_with fail
  refine (HCO.out).mono ?_
  rintro e w2 ⟨rfl, rfl⟩
  clear HCO HIB
  go_wp2
  have hrow := World.rowIs_made w2 (.int .i64 0) n 3
  have hrow0 := Lib.hid (show (w2.alloc (.cells (madeCells #[.int .i64 0] n) 3)).rowIs w2.heap.size 3 n (fun s => .int .i64 ((if s < n then 0 else dAt xs i s : Nat) : Int)) from hrow.congr fun s hs => by simp [hs])
  have HM := Lib.hid hmk
  clear hrow hmk
  go_loopg [1, 9] n (fun g s1 s9 wr => ∃ j I : Nat, j ≤ n ∧ j = g ∧ s1 = .int .i64 I ∧ s9 = .int .i64 ((j : Nat) - 1) ∧ I ≤ i ∧ Hid (I = i / prodN (toN (xs.drop j))) ∧ Hid (wr.rowIs w2.heap.size 3 n (fun s => .int .i64 ((if s < j then 0 else dAt xs i s : Nat) : Int))) ∧ Hid (Grow w2 wr))
  case atStart => exact ⟨n, i, Nat.le_refl _, rfl, rfl, by go_num, Nat.le_refl _, Lib.hid (by rw [List.drop_of_length_le (by rw [HN.out]; exact Nat.le_refl _)]; simp [toN, prodN]), hrow0, Lib.hid (grow_new _ _)⟩
  case round =>
    obtain ⟨j, I, hj, rfl, rfl, h9, hIi, HQ, HW, HG⟩ := hrel
    clear hrow0
    by_cases hj0 : 0 < j
    · obtain ⟨t, rfl⟩ : ∃ t, j = t + 1 := ⟨j - 1, by omega⟩
      rw [show ((t + 1 : Nat) : Int) - 1 = ((t : Nat) : Int) by omega] at h9
      subst h9
      have htl : t < xs.length := by rw [HN.out]; omega
      obtain ⟨b, off, rfl, hb, hcl⟩ := HR.out (by omega)
      have hc := (HG.out.cell (p := ⟨b, off + t, none⟩) hb).trans (hcl t htl)
      obtain ⟨m, hm1, hmb⟩ := at_ok htl HAL.out
      have HPD := Lib.hid (prod_drop htl hm1)
      have HST := Lib.hid (idx_step htl hm1 HQ.out HW.out)
      have hpos := pos_drop HP0.out t
      rw [HPD.out] at hpos
      have hm0 : 0 < m := Nat.pos_of_mul_pos_right hpos
      rw [hm1] at hc
      clear hcl htl hm1 hpos
      have hcq := HW.out.cell (show t < n by omega)
      have hfq := HW.out.frozen t
      simp only [Nat.lt_succ_self, if_true] at hcq
      have HQ1 : Hid (I / m = i / prodN (toN (xs.drop t))) := Lib.hid (by rw [HQ.out, Nat.div_div_eq_div_mul, HPD.out, Nat.mul_comm])
      have hIm : I / m ≤ i := Nat.le_trans (Nat.div_le_self _ _) hIi
      have hmz : ¬ ((m : Nat) : Int) = 0 := by omega
      have hrem : ((I : Nat) : Int).tmod ((m : Nat) : Int) = ((I % m : Nat) : Int) := by rw [Int.tmod_eq_emod_of_nonneg (by omega)]; simp
      have hquo : ((I : Nat) : Int).tdiv ((m : Nat) : Int) = ((I / m : Nat) : Int) := by rw [Int.tdiv_eq_ediv_of_nonneg (by omega)]; simp
      have hrem' : ((I : Nat) : Int) % ((m : Nat) : Int) = ((I % m : Nat) : Int) := by simp
      have hquo' : ((I : Nat) : Int) / ((m : Nat) : Int) = ((I / m : Nat) : Int) := by simp
      have HG1 : Hid (Grow w2 (wr.setCell ⟨w2.heap.size, t, none⟩ (.int .i64 ((I % m : Nat) : Int)))) := Lib.hid (Below.setCell HG.out (Nat.le_refl _) _)
      have hcx : (wr.setCell ⟨w2.heap.size, t, none⟩ (.int .i64 ((I % m : Nat) : Int))).cell? ⟨b, off + t, none⟩ = some (.int .i64 ((m : Nat) : Int)) := (HG1.out.cell (p := ⟨b, off + t, none⟩) hb).trans ((HG.out.cell (p := ⟨b, off + t, none⟩) hb).symm.trans hc)
      have hw1 : IntKind.i64.wrap (((t : Nat) : Int) - 1) = ((t : Nat) : Int) - 1 := by rw [IntKind.wrap_i64]; omega
      obtain ⟨y, hy⟩ : ∃ y, I % m = y := ⟨_, rfl⟩
      obtain ⟨z, hz⟩ : ∃ z, I / m = z := ⟨_, rfl⟩
      have hyl : I % m ≤ I := Nat.mod_le _ _
      rw [hy] at hrem hrem' HG1 hcx hyl HST
      rw [hz] at hquo hquo' HQ1 hIm
      clear hy hz
      have hwa : IntKind.i64.wrap ((y : Nat) : Int) = ((y : Nat) : Int) := by rw [IntKind.wrap_i64]; omega
      have hwb : IntKind.i64.wrap ((z : Nat) : Int) = ((z : Nat) : Int) := by rw [IntKind.wrap_i64]; omega
      go_wp2
      go_roundg t
      case rel => exact ⟨t, z, by omega, rfl, rfl, rfl, hIm, HQ1, HST, HG1⟩
      case measure => omega
    · obtain rfl : j = 0 := by omega
      rw [show ((0 : Nat) : Int) - 1 = -1 by omega] at h9
      subst h9
      have HL : Hid ((ofN (digs (toN xs) i)).length = n) := Lib.hid (by rw [ofN_len, digs_len, toN_len, HN.out])
      have HW1 := Lib.hid (dAt_row HN.out (show wr.rowIs w2.heap.size 3 n (fun s => .int .i64 ((dAt xs i s : Nat) : Int)) from HW.out.congr fun s _ => by simp))
      go_wp2
      go_ret2
      exact ⟨_, by rw [HB.out, HI.out, HL.out]; rfl, by rw [HI.out]; exact HW1.out, HG.out⟩
end Go.Proofs.Ytbediaeaodjnmaa
