/-
  What runs.take comes to: a group is read.
-/
import Derived.Test.YtoapfegmipopkaaEncode
namespace Go.Proofs.Ytoapfegmipopkaa
open Go.RowKit

/-- a group's own bytes, how many times, and the cursor behind it -/
def grpS (most : Int) (s : St) : List Int × Nat × St :=
  if (numS (2 * most) s).1 % 2 = 1 then ((takeS 1 (numS (2 * most) s).2).1, (numS (2 * most) s).1 / 2 + 3, (takeS 1 (numS (2 * most) s).2).2)
  else ((takeS (((numS (2 * most) s).1 / 2 + 1 : Nat) : Int) (numS (2 * most) s).2).1, 1, (takeS (((numS (2 * most) s).1 / 2 + 1 : Nat) : Int) (numS (2 * most) s).2).2)

theorem numS_le (m : Int) (s : St) : ((numS m s).1 : Int) ≤ max m 0 := by
  unfold numS
  by_cases hb : (takeN s.bs).2.2 = 0 ∧ (m < 0 ∨ m < (takeN s.bs).1)
  · rw [if_pos hb]
    simp [settleS]
    omega
  · rw [if_neg hb]
    by_cases he : (takeN s.bs).2.2 = 0
    · simp only [settleS, he, ne_eq, not_true, if_false]
      omega
    · simp only [settleS, ne_eq, he, not_false_eq_true, if_true]
      omega

def Grouped (t : TypeId) (S : Nat → Prop) (g : Nat) (r : List Int × Nat × St) (w : World) (e : Ending) (w' : World) : Prop :=
  ∃ v, w'.ownsRow w.heap.size 5 1 v r.1.length (u8s r.1) ∧ e = .returned (.agg #[v, .int .i64 (r.2.1 : Nat)]) ∧ IsC t S w' g r.2.2 ∧ Kept (fun k => k = g) w w'

theorem own_keptlt {T : Nat → Prop} {w w' : World} {base n : Nat} {v : Value} {xs : List Value} (h : w.ownsRow base 5 1 v n xs) (hk : Kept T w w') (hT : ∀ k, T k → k < base) : w'.ownsRow base 5 1 v n xs := by
  refine ⟨h.1, ?_⟩
  rcases h.2 with h0 | ⟨g', cap', cur, hv, hbg, hgg, rest⟩
  · exact .inl h0
  · have hlt : g' < w.heap.size := (Array.getElem?_eq_some_iff.1 hgg).1
    exact .inr ⟨g', cap', cur, hv, hbg, (hk.block g' hlt (fun x => by have := hT g' x; omega)).trans hgg, rest⟩

theorem pair_cells {w : World} {g : Nat} {t : TypeId} {a b : Value} (h : w.heap[g]? = some (.cells #[a, b] t (0, 0))) : w.cell? ⟨g, 0, none⟩ = some a ∧ w.cell? ⟨g, 1, none⟩ = some b :=
  ⟨cell_of_row w g 0 _ t (0, 0) h, cell_of_row w g 1 _ t (0, 0) h⟩
theorem pair0 {w : World} {g : Nat} {t : TypeId} {a b : Value} (h : w.heap[g]? = some (.cells #[a, b] t (0, 0))) (v : Value) : (w.setCell ⟨g, 0, none⟩ v).heap[g]? = some (.cells #[v, b] t (0, 0)) := heap_setCell_same w g 0 _ t v h
theorem pair1 {w : World} {g : Nat} {t : TypeId} {a b : Value} (h : w.heap[g]? = some (.cells #[a, b] t (0, 0))) (v : Value) : (w.setCell ⟨g, 1, none⟩ v).heap[g]? = some (.cells #[a, v] t (0, 0)) := heap_setCell_same w g 1 _ t v h

theorem grouped_end {t : TypeId} {S : Nat → Prop} {g B m : Nat} {xs : List Int} {s2 : St} {w w2 : World} {v b : Value} (hR : w.heap.size < w2.heap.size) (hgl : g < w.heap.size) (hS : ∀ k, w.heap.size ≤ k → S k) (hB : w.heap.size < B) (hown : w2.ownsRow B 5 1 v xs.length (u8s xs))
    (hi : IsC t S w2 g s2) (hk : Kept (fun k => k = g) w w2) (hb : b = .int .i64 (m : Nat)) :
    Grouped t S g (xs, m, s2) w (.returned (.agg #[v, b])) ((w2.setCell ⟨w.heap.size, 0, none⟩ v).setCell ⟨w.heap.size, 1, none⟩ b) := by
  subst hb
  have hk3 : Kept (fun k => k = w.heap.size) w2 ((w2.setCell ⟨w.heap.size, 0, none⟩ v).setCell ⟨w.heap.size, 1, none⟩ (.int .i64 (m : Nat))) := ((Kept.refl _ w2).one _).one _
  refine ⟨v, own_base (own_keptlt hown hk3 (fun k e => by omega)) (by omega), rfl, hi.kept hk3 (fun k e => hS k (by omega)) (by omega), ?_⟩
  exact ⟨hk3.os.trans hk.os, hk3.tape.trans hk.tape, hk3.output.trans hk.output, Nat.le_trans hk.size hk3.size, fun i hi hs => (hk3.block i (by omega) (by omega)).trans (hk.block i hi hs)⟩

set_option maxRecDepth 10000 in
set_option maxHeartbeats 1600000 in
theorem group_any {t : TypeId} {S : Nat → Prop} {g : Nat} {s : St} (n : Int) (w : World) (h : IsC t S w g s) (hg : Good s) (hS : ∀ k, w.heap.size ≤ k → S k) (hn0 : -1000 ≤ n) (hn1 : n ≤ 2147483647) :
    Calls Try.prog 18 #[.pointer (some ⟨g, 0, none⟩), .int .i64 n] w (Grouped t S g (grpS n s) w) := by
  have hgl := h.lt
  obtain ⟨w0, hw0⟩ : ∃ w0, w0 = w.alloc (.cells #[.slice none 0 0, .int .i64 0] 46) := ⟨_, rfl⟩
  have G0 : Grow w w0 := by rw [hw0]; exact grow_new _ _
  have B0 : w0.heap[w.heap.size]? = some (.cells #[.slice none 0 0, .int .i64 0] 46 (0, 0)) := by rw [hw0]; exact heap_alloc_new w _
  have hlt0 : w.heap.size < w0.heap.size := (Array.getElem?_eq_some_iff.1 B0).1
  have HN := Lib.hid (num_any (2 * n) w0 (h.grow G0) hg (by omega))
  have hle := numS_le (2 * n) s
  have hg1 := hg.num (2 * n)
  obtain ⟨⟨V, s1⟩, hr⟩ : ∃ r, numS (2 * n) s = r := ⟨_, rfl⟩
  have HR := Lib.hid (show grpS n s = if V % 2 = 1 then ((takeS 1 s1).1, V / 2 + 3, (takeS 1 s1).2) else ((takeS ((V / 2 + 1 : Nat) : Int) s1).1, 1, (takeS ((V / 2 + 1 : Nat) : Int) s1).2) by unfold grpS; rw [hr])
  rw [hr] at HN hle hg1
  simp only at HN hle hg1
  have hV : V ≤ 4294967294 := by omega
  have HW0 := Lib.hid hw0
  have HG0 := Lib.hid G0
  have HB0 := Lib.hid B0
  clear hr hw0 G0 B0 h hle
  by_cases hodd : V % 2 = 1
  · rw [if_pos hodd] at HR
    have HT := Lib.hid (fun W H => take_c (t := t) (S := S) (g := g) (s := s1) 1 W H hg1)
    go_enter Try.func18, Try.ntmps18
    go_wp2_with fail
    rw [← HW0.out]
    refine (HN.out).mono ?_
    rintro e w1 ⟨rfl, hi, hkp⟩
    have HI := Lib.hid hi
    have HK := Lib.hid hkp
    clear hi hkp
    go_wp2_with fail
    refine (HT.out w1 HI.out).mono ?_
    rintro e w2 ⟨v, hown, rfl, hi2, hkp2⟩
    have hR1 := (hkp2.block w.heap.size (Nat.lt_of_lt_of_le hlt0 HK.out.size) (by omega)).trans ((HK.out.block w.heap.size hlt0 (by omega)).trans HB0.out)
    have hf0 := frozen_of_row w2 w.heap.size 0 _ _ hR1
    have hf1 := frozen_of_row w2 w.heap.size 1 _ _ hR1
    have HR1 := Lib.hid hR1
    obtain ⟨hc0, hc1⟩ := pair_cells hR1
    obtain ⟨A2, c2, rfl, -, -, -⟩ := own_nums hown
    have HO := Lib.hid hown
    have HI2 := Lib.hid hi2
    have HK2 := Lib.hid (HK.out.trans hkp2)
    have hsz := HK.out.size
    clear hown hi2 hkp2 hR1 hg1
    have HV := Lib.hid (show (Value.int .i64 ((V : Int) / 2 + 3)) = .int .i64 ((V / 2 + 3 : Nat) : Int) by simp)
    go_wp2
    obtain ⟨hd0, hd1⟩ := pair_cells (pair1 (pair0 HR1.out (.slice A2 (takeS 1 s1).1.length c2)) (.int .i64 ((V : Int) / 2 + 3)))
    rw [HR.out]
    exact bodyPost_ret (v := .agg #[.slice A2 (takeS 1 s1).1.length c2, .int .i64 ((V : Int) / 2 + 3)]) (by simp [results, Try.results18, go_sem, hd0, hd1]) rfl
      (grouped_end (Nat.lt_of_lt_of_le hlt0 HK2.out.size) hgl hS (Nat.lt_of_lt_of_le hlt0 hsz) HO.out HI2.out ((Kept.of_grow HG0.out).trans HK2.out) HV.out)
  · rw [if_neg hodd] at HR
    have heven : V % 2 = 0 := by omega
    have HT := Lib.hid (fun W H => take_c (t := t) (S := S) (g := g) (s := s1) ((V / 2 + 1 : Nat) : Int) W H hg1)
    have HX := Lib.hid (show ((V / 2 + 1 : Nat) : Int) = (V : Int) / 2 + 1 by simp)
    generalize ((V / 2 + 1 : Nat) : Int) = X at *
    have hX := HX.out
    subst hX
    go_enter Try.func18, Try.ntmps18
    go_wp2_with fail
    rw [← HW0.out]
    refine (HN.out).mono ?_
    rintro e w1 ⟨rfl, hi, hkp⟩
    have HI := Lib.hid hi
    have HK := Lib.hid hkp
    clear hi hkp
    go_wp2_with fail
    refine (HT.out w1 HI.out).mono ?_
    rintro e w2 ⟨v, hown, rfl, hi2, hkp2⟩
    have hR1 := (hkp2.block w.heap.size (Nat.lt_of_lt_of_le hlt0 HK.out.size) (by omega)).trans ((HK.out.block w.heap.size hlt0 (by omega)).trans HB0.out)
    have hf0 := frozen_of_row w2 w.heap.size 0 _ _ hR1
    have hf1 := frozen_of_row w2 w.heap.size 1 _ _ hR1
    have HR1 := Lib.hid hR1
    obtain ⟨hc0, hc1⟩ := pair_cells hR1
    obtain ⟨A2, c2, rfl, -, -, -⟩ := own_nums hown
    have HO := Lib.hid hown
    have HI2 := Lib.hid hi2
    have HK2 := Lib.hid (HK.out.trans hkp2)
    have hsz := HK.out.size
    clear hown hi2 hkp2 hR1 hg1
    have HV := Lib.hid (show (Value.int .i64 1) = .int .i64 ((1 : Nat) : Int) from rfl)
    go_wp2
    obtain ⟨hd0, hd1⟩ := pair_cells (pair1 (pair0 HR1.out (.slice A2 (takeS ((V : Int) / 2 + 1) s1).1.length c2)) (.int .i64 1))
    rw [HR.out]
    exact bodyPost_ret (v := .agg #[.slice A2 (takeS ((V : Int) / 2 + 1) s1).1.length c2, .int .i64 1]) (by simp [results, Try.results18, go_sem, hd0, hd1]) rfl
      (grouped_end (Nat.lt_of_lt_of_le hlt0 HK2.out.size) hgl hS (Nat.lt_of_lt_of_le hlt0 hsz) HO.out HI2.out ((Kept.of_grow HG0.out).trans HK2.out) HV.out)
end Go.Proofs.Ytoapfegmipopkaa
