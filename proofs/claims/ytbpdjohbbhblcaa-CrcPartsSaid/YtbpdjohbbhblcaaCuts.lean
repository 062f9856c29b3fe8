/-
  The law CrcParts, walked: it answers true, called with any table, any bytes and any cuts, and turns nothing that was there.
-/
import Derived.Test.YtbpdjohbbhblcaaBursts
namespace Go.Proofs.Ytbpdjohbbhblcaa
open Go.RowKit
set_option linter.unusedSimpArgs false

theorem more_more (T : Nat → Nat) (s : Nat) (a b : List Int) : moreN T (moreN T s a) b = moreN T s (a ++ b) := by
  unfold moreN
  rw [raw_app, Nat.xor_assoc, Nat.xor_self, Nat.xor_zero]
theorem more_none (T : Nat → Nat) (s : Nat) : moreN T s [] = s := by
  unfold moreN
  rw [raw_nil, Nat.xor_assoc, Nat.xor_self, Nat.xor_zero]

theorem more_v (A : Option Addr) (m : Nat) (cs : Array Value) (T : Nat → Nat) (s : Nat) (ps : List (List Int)) (w : World) (M : Nat) (hT : IsTab cs T) (hs : s < 4294967296) (hm : ps.length = m) (hf : Fits ps) (h : Prts w w.heap.size A ps) (hv : moreN T s (flat ps) = M) :
    Calls Try.prog 18 #[.agg cs, .int .u32 s, .slice A m m] w fun e w' => e = .returned (.int .u32 (M : Nat)) ∧ Grow w w' := by
  subst hm hv
  exact more_any A _ cs T s ps w hT hs hf h
theorem sum_v (A : Option Addr) (m : Nat) (cs : Array Value) (T : Nat → Nat) (ps : List (List Int)) (w : World) (M : Nat) (hT : IsTab cs T) (hm : ps.length = m) (hf : Fits ps) (h : Prts w w.heap.size A ps) (hv : moreN T 0 (flat ps) = M) :
    Calls Try.prog 16 #[.agg cs, .slice A m m] w fun e w' => e = .returned (.int .u32 (M : Nat)) ∧ Grow w w' := by
  subst hm hv
  exact sum_any A _ cs T ps w hT hf h

theorem fits_of {ps : List (List Int)} (hl : ps.length ≤ 10) (h : ∀ p ∈ ps, p.length ≤ 1000 ∧ Byt p) : Fits ps := by
  refine ⟨by omega, fun i => ?_⟩
  by_cases hi : i < ps.length
  · have := h (ps.getD i []) (by simp [hi])
    exact ⟨by omega, this.2⟩
  · rw [List.getD_eq_getElem?_getD, List.getElem?_eq_none (by omega)]
    exact ⟨by simp, byt_nil⟩

theorem cut_addr {k : IntKind} {w : World} {B cap d : Nat} {A : Option Addr} {xs : List Int} (h : Nums k w B A xs) (hc : xs.length ≤ cap) : Nums k w B (if cap = d then A else Option.map (fun x => x.add d) A) (xs.drop d) := by
  by_cases e : cap = d
  · rw [if_pos e]
    have : xs.drop d = [] := List.drop_of_length_le (by omega)
    rw [this]
    exact Nums.none_
  · rw [if_neg e]
    exact h.drop_ d

theorem seal_v (A : Option Addr) (m N : Nat) (cs : Array Value) (T : Nat → Nat) (ps : List (List Int)) (bs : List Int) (w : World) (hT : IsTab cs T) (hm : ps.length = m) (hf : Fits ps) (h : Prts w w.heap.size A ps) (hv : flat ps = bs) (hN : N = bs.length + 4) (hl : bs.length ≤ 200000000000000) :
    Calls Try.prog 15 #[.agg cs, .slice A m m] w (SealedN N (sealN T bs) w) := by
  subst hm hv
  refine (seal_any A _ cs T ps w hT hf hl h).mono ?_
  rintro e w' ⟨g, rfl, hrow, hg⟩
  have hl' : (sealN T (flat ps)).length = N := by rw [sealN_len, hN]
  rw [hl'] at hrow ⊢
  exact ⟨g, rfl, hrow, hg⟩

theorem cut_none {A D : Option Addr} {cap d : Nat} (hc : A = none → cap = 0) (h : (if cap = d then A else Option.map (fun x => x.add d) A) = D) : D = none → cap - d = 0 := by
  intro hd
  subst hd
  by_cases e : cap = d
  · omega
  · rw [if_neg e, Option.map_eq_none_iff] at h
    have := hc h
    omega

theorem cut_three (bs : List Int) (i k : Nat) (h : i ≤ k) : bs.take i ++ flat [(bs.take k).drop i, bs.drop k] = bs := by
  have h1 : bs.take i = (bs.take k).take i := by rw [List.take_take, Nat.min_eq_left h]
  have h2 : flat [(bs.take k).drop i, bs.drop k] = (bs.take k).drop i ++ bs.drop k := by simp [flat]
  rw [h2, h1, ← List.append_assoc, List.take_append_drop, List.take_append_drop]
theorem cut_four (bs : List Int) (i k : Nat) (h : i ≤ k) : flat [bs.take i, (bs.take k).drop i, [], bs.drop k] = bs := by
  have h2 : flat [bs.take i, (bs.take k).drop i, [], bs.drop k] = bs.take i ++ flat [(bs.take k).drop i, bs.drop k] := by simp [flat]
  rw [h2, cut_three bs i k h]

set_option maxRecDepth 10000 in
set_option maxHeartbeats 4000000 in
theorem cuts_yes (A AI AK : Option Addr) (cap n : Nat) (cs : Array Value) (T : Nat → Nat) (bs : List Int) (i k : Nat) (w : World) (hT : IsTab cs T) (hn : bs.length = n) (hl : n ≤ 1000) (hik : i ≤ k) (hkn : k ≤ n) (hcap : n ≤ cap)
    (hAI : (if cap = i then A else Option.map (fun x => x.add i) A) = AI) (hAK : (if cap = k then A else Option.map (fun x => x.add k) A) = AK)
    (hc : A = none → cap = 0) (hb : Byt bs) (hr : Nums .u8 w w.heap.size A bs) : Calls Try.prog 6 #[.agg cs, .slice A n cap, .int .i64 i, .int .i64 k] w (Fine w) := by
  have d1 : decide ((1000 : Int) < (n : Int)) = false := by simp; omega
  have d2 : decide ((i : Int) < 0) = false := by simp
  have d3 : decide ((k : Int) < (i : Int)) = false := by simp; omega
  have d4 : decide ((n : Int) < (k : Int)) = false := by simp; omega
  have hs := hT.1
  have HT := Lib.hid hT
  have HN := Lib.hid hn
  have HC := Lib.hid hc
  have HR := Lib.hid hr
  have HB := Lib.hid hb
  clear hr hn hb hc hT
  obtain ⟨M, hM⟩ : ∃ M, moreN T 0 bs = M := ⟨_, rfl⟩
  have HM := Lib.hid hM
  clear hM
  have hb0 : Grow w (w.alloc (.cells cs 24)) := grow_new _ _
  have hg0 := heap_alloc_new w (.cells cs 24)
  have hlt0 : w.heap.size < (w.alloc (.cells cs 24)).heap.size := by simp
  go_enter Try.func6, Try.ntmps6
  go_wp2_with fail
  generalize w.alloc (.cells cs 24) = w0 at *
  refine (small_any w0).mono ?_
  rintro e w1 ⟨rfl, hb1⟩
  have hg1 := (hb1.block w.heap.size hlt0).trans hg0
  have hlt1 : w.heap.size < w1.heap.size := Nat.lt_of_lt_of_le hlt0 hb1.size
  have hw1 : Grow w w1 := hb0.trans hb1
  go_wp2_with (refine wpList_tab rfl _ rfl w.heap.size rfl cs hg1 hs ?_)
  refine (sum_v (some ⟨w1.heap.size, 0, none⟩) 1 cs T [bs] _ M HT.out rfl (fits_one (by rw [HN.out]; omega) HB.out) (prts_lit1 w1 A n cap bs HN.out.symm HC.out (HR.out.grow hw1)) (by rw [flat_one]; exact HM.out)).mono ?_
  rintro e w2 ⟨rfl, hb2⟩
  have hb2' : Grow w1 w2 := grow_alloc hb2
  have hg2 := (hb2'.block w.heap.size hlt1).trans hg1
  have hlt2 : w.heap.size < w2.heap.size := Nat.lt_of_lt_of_le hlt1 hb2'.size
  have hw2 : Grow w w2 := hw1.trans hb2'
  clear hg0 hg1 hb0 hb1 hlt0 hb2
  go_wp2_with (refine wpList_tab rfl _ rfl w.heap.size rfl cs hg2 hs ?_)
  obtain ⟨N, hN⟩ : ∃ N, N = n + 4 := ⟨_, rfl⟩
  have HNN := Lib.hid hN
  clear hN
  refine (seal_one A n N cap cs T bs w2 HT.out HN.out.symm HNN.out HC.out (by omega) HB.out (HR.out.grow hw2)).mono ?_
  rintro e w3 ⟨gs, rfl, hrow3, hb3⟩
  have hg3 := (hb3.block w.heap.size hlt2).trans hg2
  have hlt3 : w.heap.size < w3.heap.size := Nat.lt_of_lt_of_le hlt2 hb3.size
  have hw3 : Grow w w3 := hw2.trans hb3
  have HR3 := Lib.hid hrow3
  have HG3 := Lib.hid hg3
  clear hg2 hrow3 hg3 d1 d2 d3 d4
  go_wp2
  obtain ⟨S1, hS1⟩ : ∃ S, moreN T 0 (bs.take i) = S := ⟨_, rfl⟩
  obtain ⟨S2, hS2⟩ : ∃ S, moreN T 0 (bs.take k) = S := ⟨_, rfl⟩
  have hl1 := Lib.hid (show S1 < 4294967296 by rw [← hS1]; exact moreN_lt HT.out.2.2 0 _ (by decide))
  have hl2 := Lib.hid (show S2 < 4294967296 by rw [← hS2]; exact moreN_lt HT.out.2.2 0 _ (by decide))
  have hlM := Lib.hid (show M < 4294967296 by rw [← HM.out]; exact moreN_lt HT.out.2.2 0 _ (by decide))
  have HV1 := Lib.hid (show moreN T 0 (flat [bs.take i]) = S1 by rw [flat_one]; exact hS1)
  have HV2 := Lib.hid (show moreN T 0 (flat [bs.take k]) = S2 by rw [flat_one]; exact hS2)
  have HV15 := Lib.hid (show moreN T S1 (flat [(bs.take k).drop i, bs.drop k]) = M by rw [← hS1, more_more, cut_three bs i k hik]; exact HM.out)
  have HV30 := Lib.hid (show moreN T S2 (flat [bs.drop k]) = M by rw [← hS2, more_more, flat_one, List.take_append_drop]; exact HM.out)
  have HV37 := Lib.hid (show moreN T M (flat []) = M by rw [flat_none, more_none])
  have HV14 := Lib.hid (show moreN T 0 (flat [bs.take i, (bs.take k).drop i, [], bs.drop k]) = M by rw [cut_four bs i k hik]; exact HM.out)
  have HV36 := Lib.hid (show moreN T 0 (flat [[], bs]) = M by rw [show flat [[], bs] = bs by simp [flat]]; exact HM.out)
  have HNI := Lib.hid (cut_none HC.out hAI)
  have HNK := Lib.hid (cut_none HC.out hAK)
  have LI := Lib.hid (show i = (bs.take i).length by rw [List.length_take, HN.out]; omega)
  have LK := Lib.hid (show k = (bs.take k).length by rw [List.length_take, HN.out]; omega)
  have LIK := Lib.hid (show k - i = ((bs.take k).drop i).length by rw [List.length_drop, List.length_take, HN.out]; omega)
  have LD := Lib.hid (show n - k = (bs.drop k).length by rw [List.length_drop, HN.out])
  have LDI := Lib.hid (show n - i = (bs.drop i).length by rw [List.length_drop, HN.out])
  have XI := Lib.hid (show ∀ W : World, Grow w W → Nums .u8 W W.heap.size AI ((bs.take k).drop i) from fun W hW => by rw [← hAI]; exact cut_addr ((HR.out.grow hW).take k) (by rw [List.length_take, HN.out]; omega))
  have XD := Lib.hid (show ∀ W : World, Grow w W → Nums .u8 W W.heap.size AI (bs.drop i) from fun W hW => by rw [← hAI]; exact cut_addr (HR.out.grow hW) (by rw [HN.out]; exact hcap))
  have XK := Lib.hid (show ∀ W : World, Grow w W → Nums .u8 W W.heap.size AK (bs.drop k) from fun W hW => by rw [← hAK]; exact cut_addr (HR.out.grow hW) (by rw [HN.out]; exact hcap))
  have hne : ((M : Int) != (M : Int)) = false := by simp
  have hee : ((M : Int) == (M : Int)) = true := by simp
  have hfit : ∀ q : List Int, q.length ≤ 1000 → Byt q → Fits [q] := fun q h1 h2 => fits_one (by omega) h2
  have HFI := Lib.hid hfit
  obtain ⟨str, hstr⟩ : ∃ s, strOfNums (sealN T bs) = s := ⟨_, rfl⟩
  have HST := Lib.hid hstr
  clear hS1 hS2 hfit hstr
  have hi1 : i ≤ cap := by omega
  have hk1 : k ≤ cap := by omega
  have hi2 : (i : Int) ≤ (k : Int) := by omega
  have hk2 : (k : Int) ≤ (n : Int) := by omega
  have hi3 : (i : Int) ≤ (n : Int) := by omega
  refine wp_region_R Grow (n := 41) rfl (by kernel_rfl) ?_
  intro W0 hW0e hW0
  have htb : ∀ wg, Grow W0 wg → wg.heap[w.heap.size]? = some (.cells cs 24 (0, 0)) := fun wg hg => ((hW0.trans hg).block w.heap.size hlt3).trans HG3.out
  have hw0 : Grow w W0 := hw3.trans hW0
  clear hW0e
  refine wpR_take growOrd (i := 0) (v := Value.agg cs) rfl (by kernel_rfl) (by kernel_rfl) (by kernel_rfl) (fun _ _ _ h => h) (by rfl) ?hf1 ?rf1
  case hf1 => exact fun wg hSw => exec_tab rfl rfl (htb wg (Grow.trans (Grow.refl W0) hSw)) hs
  simp only [Act.put, List.setIfInBounds_toArray, List.set_cons_zero, List.set_cons_succ]
  refine wpR_take growOrd (i := 1) (v := Value.agg cs) rfl (by kernel_rfl) (by kernel_rfl) (by kernel_rfl) (fun _ _ _ h => h) (by rfl) ?hf2 ?rf2
  case hf2 => exact fun wg hSw => exec_tab rfl rfl (htb wg (Grow.trans (Grow.refl W0) hSw)) hs
  simp only [Act.put, List.setIfInBounds_toArray, List.set_cons_zero, List.set_cons_succ]
  refine wpR_take growOrd (i := 2) (v := ?vf3) rfl (by kernel_rfl) (by kernel_rfl) (by kernel_rfl) (fun _ _ _ h => h) (by rfl) ?hf3 ?rf3
  case hf3 => (intro wg hSw; go_simp <;> with_reducible rfl)
  simp only [Act.put, List.setIfInBounds_toArray, List.set_cons_zero, List.set_cons_succ]
  refine wpR_take growOrd (i := 3) (v := ?vf4) rfl (by kernel_rfl) (by kernel_rfl) (by kernel_rfl) (fun _ _ _ h => h) (by rfl) ?hf4 ?rf4
  case hf4 => (intro wg hSw; go_simp <;> with_reducible rfl)
  simp only [Act.put, List.setIfInBounds_toArray, List.set_cons_zero, List.set_cons_succ]
  refine wpR_take growOrd (i := 4) (v := ?vf5) rfl (by kernel_rfl) (by kernel_rfl) (by kernel_rfl) (fun _ _ _ h => h) (by rfl) ?hf5 ?rf5
  case hf5 => (intro wg hSw; go_simp <;> with_reducible rfl)
  simp only [Act.put, List.setIfInBounds_toArray, List.set_cons_zero, List.set_cons_succ]
  refine wpR_take growOrd (i := 7) (v := ?vf6) rfl (by kernel_rfl) (by kernel_rfl) (by kernel_rfl) (fun _ _ _ h => h) (by rfl) ?hf6 ?rf6
  case hf6 => (intro wg hSw; go_simp <;> with_reducible rfl)
  simp only [Act.put, List.setIfInBounds_toArray, List.set_cons_zero, List.set_cons_succ]
  refine wpR_take growOrd (i := 8) (v := ?vf7) rfl (by kernel_rfl) (by kernel_rfl) (by kernel_rfl) (fun _ _ _ h => h) (by rfl) ?hf7 ?rf7
  case hf7 => (intro wg hSw; go_simp <;> with_reducible rfl)
  simp only [Act.put, List.setIfInBounds_toArray, List.set_cons_zero, List.set_cons_succ]
  refine wpR_take growOrd (i := 9) (v := ?vf8) rfl (by kernel_rfl) (by kernel_rfl) (by kernel_rfl) (fun _ _ _ h => h) (by rfl) ?hf8 ?rf8
  case hf8 => (intro wg hSw; go_simp <;> with_reducible rfl)
  simp only [Act.put, List.setIfInBounds_toArray, List.set_cons_zero, List.set_cons_succ]
  refine wpR_take growOrd (i := 10) (v := ?vf9) rfl (by kernel_rfl) (by kernel_rfl) (by kernel_rfl) (fun _ _ _ h => h) (by rfl) ?hf9 ?rf9
  case hf9 => (intro wg hSw; go_simp <;> with_reducible rfl)
  simp only [Act.put, List.setIfInBounds_toArray, List.set_cons_zero, List.set_cons_succ]
  refine wpR_take growOrd (i := 11) (v := ?vf10) rfl (by kernel_rfl) (by kernel_rfl) (by kernel_rfl) (fun _ _ _ h => h) (by rfl) ?hf10 ?rf10
  case hf10 => (intro wg hSw; go_simp <;> with_reducible rfl)
  simp only [Act.put, List.setIfInBounds_toArray, List.set_cons_zero, List.set_cons_succ]
  refine wpR_take growOrd (i := 12) (v := ?vf11) rfl (by kernel_rfl) (by kernel_rfl) (by kernel_rfl) (fun _ _ _ h => h) (by rfl) ?hf11 ?rf11
  case hf11 => (intro wg hSw; go_simp <;> with_reducible rfl)
  simp only [Act.put, List.setIfInBounds_toArray, List.set_cons_zero, List.set_cons_succ]
  refine wpR_take growOrd (i := 13) (v := ?vf12) rfl (by kernel_rfl) (by kernel_rfl) (by kernel_rfl) (fun _ _ _ h => h) (by rfl) ?hf12 ?rf12
  case hf12 => (intro wg hSw; go_simp <;> with_reducible rfl)
  simp only [Act.put, List.setIfInBounds_toArray, List.set_cons_zero, List.set_cons_succ]
  refine wpR_take growOrd (i := 16) (v := ?vf13) rfl (by kernel_rfl) (by kernel_rfl) (by kernel_rfl) (fun _ _ _ h => h) (by rfl) ?hf13 ?rf13
  case hf13 => (intro wg hSw; go_simp <;> with_reducible rfl)
  simp only [Act.put, List.setIfInBounds_toArray, List.set_cons_zero, List.set_cons_succ]
  refine wpR_name fun l' Q' A0 hl hQ hA => ?_
  have s5_6_14_15_24_25_29_30_37 : ∀ wS : World, Grow W0 wS → ∀ g5 : Nat, ∀ g14 : Nat, ∀ g24 : Nat, ∀ g29 : Nat, wpR Grow Try.prog .any l'.toArray Q' 2 #[true, true, true, true, true, true, true, true, true, true, true, true, true, true, true, true, true, true, true, true, true, true, true, true, true, true, true, true, true, true, true, true, true, true, true, true, true, true, true, false, false] (Act.put (Act.put (Act.put (Act.put (Act.put (Act.put (Act.put (Act.put (Act.put (Act.put (Act.put (Act.put (Act.put (Act.put (Act.put (Act.put (Act.put (Act.put (Act.put (Act.put (Act.put (Act.put (Act.put (Act.put (Act.put (Act.put A0 (some 45) (.slice (some ⟨g5, 0, none⟩) 1 1)) (some 46) (.int .u32 (S1 : Int))) (some 54) (.slice (some ⟨g14, 0, none⟩) 2 2)) (some 55) (.int .u32 (M : Int))) (some 57) (.bool false)) (some 58) (.bool false)) (some 59) (.agg cs)) (some 60) (.agg cs)) (some 61) (.slice A n cap)) (some 62) (.int .i64 (k : Int))) (some 63) (.slice A k cap)) (some 64) (.slice (some ⟨g24, 0, none⟩) 1 1)) (some 65) (.int .u32 (S2 : Int))) (some 66) (.slice A n cap)) (some 67) (.int .i64 (k : Int))) (some 68) (.slice AK (n - k) (cap - k))) (some 69) (.slice (some ⟨g29, 0, none⟩) 1 1)) (some 70) (.int .u32 (M : Int))) (some 71) (.int .u32 (M : Int))) (some 72) (.bool false)) (some 73) (.bool false)) (some 74) (.bool false)) (some 75) (.agg cs)) (some 76) (.int .u32 (M : Int))) (some 77) (.int .u32 (M : Int))) (some 78) (.int .u32 (M : Int))) wS := by
    intro wS hGS g5 g14 g24 g29 
    subst hl hQ
    rw [hA]
    clear hA
    simp only [Act.put, List.setIfInBounds_toArray, List.set_cons_zero, List.set_cons_succ]
    refine wpR_take growOrd (i := 39) (v := ?vf14) rfl (by kernel_rfl) (by kernel_rfl) (by kernel_rfl) (fun _ _ _ h => h) (by rfl) ?hf14 ?rf14
    case hf14 => (intro wg hSw; go_simp <;> with_reducible rfl)
    simp only [Act.put, List.setIfInBounds_toArray, List.set_cons_zero, List.set_cons_succ]
    refine wpR_take growOrd (i := 40) (v := ?vf15) rfl (by kernel_rfl) (by kernel_rfl) (by kernel_rfl) (fun _ _ _ h => h) (by rfl) ?hf15 ?rf15
    case hf15 => (intro wg hSw; go_simp <;> with_reducible rfl)
    simp only [Act.put, List.setIfInBounds_toArray, List.set_cons_zero, List.set_cons_succ]
    refine wpR_done (by kernel_rfl) ?_
    have hq3 : Grow w3 wS := Grow.trans hW0 hGS
    have hqw : Grow w wS := hw3.trans hq3
    clear htb hw0
    go_wp2
    refine wp_region_R Grow (n := 42) rfl (by kernel_rfl) ?_
    intro W0 hW0e hW0
    have htb : ∀ wg, Grow W0 wg → wg.heap[w.heap.size]? = some (.cells cs 24 (0, 0)) := fun wg hg => (((hq3.trans hW0).trans hg).block w.heap.size hlt3).trans HG3.out
    have hw0 : Grow w W0 := hqw.trans hW0
    have h30 : Grow w3 W0 := hq3.trans hW0
    clear hW0e
    refine wpR_take growOrd (i := 0) (v := ?vf33) rfl (by kernel_rfl) (by kernel_rfl) (by kernel_rfl) (fun _ _ _ h => h) (by rfl) ?hf33 ?rf33
    case hf33 => (intro wg hSw; go_simp <;> with_reducible rfl)
    simp only [Act.put, List.setIfInBounds_toArray, List.set_cons_zero, List.set_cons_succ]
    refine wpR_take growOrd (i := 1) (v := ?vf34) rfl (by kernel_rfl) (by kernel_rfl) (by kernel_rfl) (fun _ _ _ h => h) (by rfl) ?hf34 ?rf34
    case hf34 => (intro wg hSw; go_simp <;> with_reducible rfl)
    simp only [Act.put, List.setIfInBounds_toArray, List.set_cons_zero, List.set_cons_succ]
    refine wpR_take growOrd (i := 2) (v := Value.agg cs) rfl (by kernel_rfl) (by kernel_rfl) (by kernel_rfl) (fun _ _ _ h => h) (by rfl) ?hf35 ?rf35
    case hf35 => exact fun wg hSw => exec_tab rfl rfl (htb wg (Grow.trans (Grow.refl W0) hSw)) hs
    simp only [Act.put, List.setIfInBounds_toArray, List.set_cons_zero, List.set_cons_succ]
    refine wpR_take growOrd (i := 3) (v := ?vf36) rfl (by kernel_rfl) (by kernel_rfl) (by kernel_rfl) (fun _ _ _ h => h) (by rfl) ?hf36 ?rf36
    case hf36 => (intro wg hSw; go_simp <;> with_reducible rfl)
    simp only [Act.put, List.setIfInBounds_toArray, List.set_cons_zero, List.set_cons_succ]
    refine wpR_take growOrd (i := 4) (v := ?vf37) rfl (by kernel_rfl) (by kernel_rfl) (by kernel_rfl) (fun _ _ _ h => h) (by rfl) ?hf37 ?rf37
    case hf37 => (intro wg hSw; go_simp <;> with_reducible rfl)
    simp only [Act.put, List.setIfInBounds_toArray, List.set_cons_zero, List.set_cons_succ]
    refine wpR_take growOrd (i := 5) (v := ?vf38) rfl (by kernel_rfl) (by kernel_rfl) (by kernel_rfl) (fun _ _ _ h => h) (by rfl) ?hf38 ?rf38
    case hf38 => (intro wg hSw; go_simp <;> with_reducible rfl)
    simp only [Act.put, List.setIfInBounds_toArray, List.set_cons_zero, List.set_cons_succ]
    refine wpR_take growOrd (i := 6) (v := ?vf39) rfl (by kernel_rfl) (by kernel_rfl) (by kernel_rfl) (fun _ _ _ h => h) (by rfl) ?hf39 ?rf39
    case hf39 => (intro wg hSw; go_simp <;> with_reducible rfl)
    simp only [Act.put, List.setIfInBounds_toArray, List.set_cons_zero, List.set_cons_succ]
    refine wpR_take growOrd (i := 7) (v := ?vf40) rfl (by kernel_rfl) (by kernel_rfl) (by kernel_rfl) (fun _ _ _ h => h) (by rfl) ?hf40 ?rf40
    case hf40 => (intro wg hSw; go_simp <;> with_reducible rfl)
    simp only [Act.put, List.setIfInBounds_toArray, List.set_cons_zero, List.set_cons_succ]
    refine wpR_take growOrd (i := 8) (v := ?vf41) rfl (by kernel_rfl) (by kernel_rfl) (by kernel_rfl) (fun _ _ _ h => h) (by rfl) ?hf41 ?rf41
    case hf41 => (intro wg hSw; go_simp <;> with_reducible rfl)
    simp only [Act.put, List.setIfInBounds_toArray, List.set_cons_zero, List.set_cons_succ]
    refine wpR_take growOrd (i := 9) (v := ?vf42) rfl (by kernel_rfl) (by kernel_rfl) (by kernel_rfl) (fun _ _ _ h => h) (by rfl) ?hf42 ?rf42
    case hf42 => (intro wg hSw; go_simp <;> with_reducible rfl)
    simp only [Act.put, List.setIfInBounds_toArray, List.set_cons_zero, List.set_cons_succ]
    refine wpR_take growOrd (i := 10) (v := ?vf43) rfl (by kernel_rfl) (by kernel_rfl) (by kernel_rfl) (fun _ _ _ h => h) (by rfl) ?hf43 ?rf43
    case hf43 => (intro wg hSw; go_simp <;> with_reducible rfl)
    simp only [Act.put, List.setIfInBounds_toArray, List.set_cons_zero, List.set_cons_succ]
    refine wpR_take growOrd (i := 11) (v := ?vf44) rfl (by kernel_rfl) (by kernel_rfl) (by kernel_rfl) (fun _ _ _ h => h) (by rfl) ?hf44 ?rf44
    case hf44 => (intro wg hSw; go_simp <;> with_reducible rfl)
    simp only [Act.put, List.setIfInBounds_toArray, List.set_cons_zero, List.set_cons_succ]
    refine wpR_take growOrd (i := 12) (v := ?vf45) rfl (by kernel_rfl) (by kernel_rfl) (by kernel_rfl) (fun _ _ _ h => h) (by rfl) ?hf45 ?rf45
    case hf45 => (intro wg hSw; go_simp <;> with_reducible rfl)
    simp only [Act.put, List.setIfInBounds_toArray, List.set_cons_zero, List.set_cons_succ]
    refine wpR_take growOrd (i := 15) (v := ?vf46) rfl (by kernel_rfl) (by kernel_rfl) (by kernel_rfl) (fun _ _ _ h => h) (by rfl) ?hf46 ?rf46
    case hf46 => (intro wg hSw; go_simp <;> with_reducible rfl)
    simp only [Act.put, List.setIfInBounds_toArray, List.set_cons_zero, List.set_cons_succ]
    refine wpR_one (i := 13) (by kernel_rfl) ?_
    refine wpR_op (i := 13) rfl (by rfl) (fun K hK => ?_)
    go_simp
    refine hK.out _ _ (grow_new _ _) ?_
    clear hK K
    try simp only [Act.put, List.setIfInBounds_toArray, List.set_cons_zero, List.set_cons_succ]
    generalize hwM13 : World.alloc W0 (Obj.cells _ 28) = wM13
    have hM13 : Grow W0 wM13 := by rw [← hwM13]; exact grow_new _ _
    have hB13 : Prts wM13 wM13.heap.size (some ⟨W0.heap.size, 0, none⟩) [bs.take i, (bs.take k).drop i, [], bs.drop k] := by
      rw [← hwM13]
      exact prts_lit W0 [(A, i, cap, bs.take i), (AI, k - i, cap - i, (bs.take k).drop i), (none, 0, 0, []), (AK, n - k, cap - k, bs.drop k)] (by
      intro x hx
      simp only [List.mem_cons, List.not_mem_nil, or_false] at hx
      rcases hx with rfl | rfl | rfl | rfl
      · exact ⟨LI.out, HC.out, (HR.out.grow (hw0.trans (Grow.refl W0))).take i⟩
      · exact ⟨LIK.out, HNI.out, XI.out _ (hw0.trans (Grow.refl W0))⟩
      · exact ⟨rfl, fun _ => rfl, Nums.none_⟩
      · exact ⟨LD.out, HNK.out, XK.out _ (hw0.trans (Grow.refl W0))⟩)
    clear hwM13
    refine wpR_one (i := 14) (by kernel_rfl) ?_
    refine wpR_op (i := 14) rfl (by rfl) (fun K hK => ?_)
    go_simp
    refine (sum_v _ 4 cs T [bs.take i, (bs.take k).drop i, [], bs.drop k] wM13 M HT.out rfl (fits_of (by simp) (by
      intro q hq
      simp only [List.mem_cons, List.not_mem_nil, or_false] at hq
      rcases hq with rfl | rfl | rfl | rfl
      · exact ⟨by rw [← LI.out]; omega, HB.out.take i⟩
      · exact ⟨by rw [← LIK.out]; omega, (HB.out.take k).drop i⟩
      · exact ⟨by simp, byt_nil⟩
      · exact ⟨by rw [← LD.out]; omega, HB.out.drop k⟩)) hB13 HV14.out).mono ?_
    rintro e wM14 ⟨rfl, hM14⟩
    have hcs : ∀ wg, Grow wM14 wg → (convert 28 9 (.slice (some ⟨gs, 0, none⟩) N N)).run Try.prog wg = .ok (.string str) wg := fun wg hg => sealed_str HR3.out HN.out HNN.out HST.out (h30.trans ((Grow.trans (Grow.trans (Grow.refl W0) hM13) hM14).trans hg))
    refine hK.out _ _ hM14 ?_
    clear hK K
    try simp only [Act.put, List.setIfInBounds_toArray, List.set_cons_zero, List.set_cons_succ]
    refine wpR_take growOrd (i := 16) (v := ?vf47) rfl (by kernel_rfl) (by kernel_rfl) (by kernel_rfl) (fun _ _ _ h => h) (by rfl) ?hf47 ?rf47
    case hf47 => (intro wg hSw; go_simp <;> with_reducible rfl)
    simp only [Act.put, List.setIfInBounds_toArray, List.set_cons_zero, List.set_cons_succ]
    refine wpR_take growOrd (i := 17) (v := ?vf48) rfl (by kernel_rfl) (by kernel_rfl) (by kernel_rfl) (fun _ _ _ h => h) (by rfl) ?hf48 ?rf48
    case hf48 => (intro wg hSw; go_simp <;> with_reducible rfl)
    simp only [Act.put, List.setIfInBounds_toArray, List.set_cons_zero, List.set_cons_succ]
    refine wpR_take growOrd (i := 18) (v := ?vf49) rfl (by kernel_rfl) (by kernel_rfl) (by kernel_rfl) (fun _ _ _ h => h) (by rfl) ?hf49 ?rf49
    case hf49 => (intro wg hSw; go_simp <;> with_reducible rfl)
    simp only [Act.put, List.setIfInBounds_toArray, List.set_cons_zero, List.set_cons_succ]
    refine wpR_take growOrd (i := 19) (v := Value.agg cs) rfl (by kernel_rfl) (by kernel_rfl) (by kernel_rfl) (fun _ _ _ h => h) (by rfl) ?hf50 ?rf50
    case hf50 => exact fun wg hSw => exec_tab rfl rfl (htb wg (Grow.trans (Grow.trans (Grow.trans (Grow.refl W0) hM13) hM14) hSw)) hs
    simp only [Act.put, List.setIfInBounds_toArray, List.set_cons_zero, List.set_cons_succ]
    refine wpR_take growOrd (i := 20) (v := ?vf51) rfl (by kernel_rfl) (by kernel_rfl) (by kernel_rfl) (fun _ _ _ h => h) (by rfl) ?hf51 ?rf51
    case hf51 => (intro wg hSw; go_simp <;> with_reducible rfl)
    simp only [Act.put, List.setIfInBounds_toArray, List.set_cons_zero, List.set_cons_succ]
    refine wpR_take growOrd (i := 21) (v := ?vf52) rfl (by kernel_rfl) (by kernel_rfl) (by kernel_rfl) (fun _ _ _ h => h) (by rfl) ?hf52 ?rf52
    case hf52 => (intro wg hSw; go_simp <;> with_reducible rfl)
    simp only [Act.put, List.setIfInBounds_toArray, List.set_cons_zero, List.set_cons_succ]
    refine wpR_take growOrd (i := 22) (v := ?vf53) rfl (by kernel_rfl) (by kernel_rfl) (by kernel_rfl) (fun _ _ _ h => h) (by rfl) ?hf53 ?rf53
    case hf53 => (intro wg hSw; go_simp <;> with_reducible rfl)
    simp only [Act.put, List.setIfInBounds_toArray, List.set_cons_zero, List.set_cons_succ]
    refine wpR_take growOrd (i := 23) (v := ?vf54) rfl (by kernel_rfl) (by kernel_rfl) (by kernel_rfl) (fun _ _ _ h => h) (by rfl) ?hf54 ?rf54
    case hf54 => (intro wg hSw; go_simp <;> with_reducible rfl)
    simp only [Act.put, List.setIfInBounds_toArray, List.set_cons_zero, List.set_cons_succ]
    refine wpR_take growOrd (i := 24) (v := ?vf55) rfl (by kernel_rfl) (by kernel_rfl) (by kernel_rfl) (fun _ _ _ h => h) (by rfl) ?hf55 ?rf55
    case hf55 => (intro wg hSw; go_simp <;> with_reducible rfl)
    simp only [Act.put, List.setIfInBounds_toArray, List.set_cons_zero, List.set_cons_succ]
    refine wpR_take growOrd (i := 25) (v := ?vf56) rfl (by kernel_rfl) (by kernel_rfl) (by kernel_rfl) (fun _ _ _ h => h) (by rfl) ?hf56 ?rf56
    case hf56 => (intro wg hSw; go_simp <;> with_reducible rfl)
    simp only [Act.put, List.setIfInBounds_toArray, List.set_cons_zero, List.set_cons_succ]
    refine wpR_take growOrd (i := 29) (v := ?vf57) rfl (by kernel_rfl) (by kernel_rfl) (by kernel_rfl) (fun _ _ _ h => h) (by rfl) ?hf57 ?rf57
    case hf57 => (intro wg hSw; go_simp <;> with_reducible rfl)
    simp only [Act.put, List.setIfInBounds_toArray, List.set_cons_zero, List.set_cons_succ]
    refine wpR_take growOrd (i := 30) (v := ?vf58) rfl (by kernel_rfl) (by kernel_rfl) (by kernel_rfl) (fun _ _ _ h => h) (by rfl) ?hf58 ?rf58
    case hf58 => (intro wg hSw; go_simp <;> with_reducible rfl)
    simp only [Act.put, List.setIfInBounds_toArray, List.set_cons_zero, List.set_cons_succ]
    refine wpR_one (i := 26) (by kernel_rfl) ?_
    refine wpR_op (i := 26) rfl (by rfl) (fun K hK => ?_)
    go_simp
    refine hK.out _ _ (grow_new _ _) ?_
    clear hK K
    try simp only [Act.put, List.setIfInBounds_toArray, List.set_cons_zero, List.set_cons_succ]
    generalize hwM26 : World.alloc wM14 (Obj.cells _ 28) = wM26
    have hM26 : Grow wM14 wM26 := by rw [← hwM26]; exact grow_new _ _
    have hB26 : Prts wM26 wM26.heap.size (some ⟨wM14.heap.size, 0, none⟩) [bs.take i, [], bs.drop i] := by
      rw [← hwM26]
      exact prts_lit wM14 [(A, i, cap, bs.take i), (none, 0, 0, []), (AI, n - i, cap - i, bs.drop i)] (by
      intro x hx
      simp only [List.mem_cons, List.not_mem_nil, or_false] at hx
      rcases hx with rfl | rfl | rfl
      · exact ⟨LI.out, HC.out, (HR.out.grow (hw0.trans (Grow.trans (Grow.trans (Grow.refl W0) hM13) hM14))).take i⟩
      · exact ⟨rfl, fun _ => rfl, Nums.none_⟩
      · exact ⟨LDI.out, HNI.out, XD.out _ (hw0.trans (Grow.trans (Grow.trans (Grow.refl W0) hM13) hM14))⟩)
    clear hwM26
    refine wpR_one (i := 27) (by kernel_rfl) ?_
    refine wpR_op (i := 27) rfl (by rfl) (fun K hK => ?_)
    go_simp
    clear hcs
    refine (seal_v _ 3 N cs T [bs.take i, [], bs.drop i] bs wM26 HT.out rfl (fits_of (by simp) (by
      intro q hq
      simp only [List.mem_cons, List.not_mem_nil, or_false] at hq
      rcases hq with rfl | rfl | rfl
      · exact ⟨by rw [← LI.out]; omega, HB.out.take i⟩
      · exact ⟨by simp, byt_nil⟩
      · exact ⟨by rw [← LDI.out]; omega, HB.out.drop i⟩)) hB26 (by simp [flat]) (by rw [HN.out]; exact HNN.out) (by rw [HN.out]; omega)).mono ?_
    rintro e wM27 ⟨g27, rfl, hrow27, hM27⟩
    have HW27 := Lib.hid hrow27
    have hcv27 : ∀ wg, Grow wM27 wg → (convert 28 9 (.slice (some ⟨g27, 0, none⟩) N N)).run Try.prog wg = .ok (.string str) wg := fun wg hg => sealed_str HW27.out HN.out HNN.out HST.out hg
    clear hrow27
    refine hK.out _ _ hM27 ?_
    clear hK K
    try simp only [Act.put, List.setIfInBounds_toArray, List.set_cons_zero, List.set_cons_succ]
    refine wpR_take growOrd (i := 28) (v := ?vf59) rfl (by kernel_rfl) (by kernel_rfl) (by kernel_rfl) (fun _ _ _ h => h) (by rfl) ?hf59 ?rf59
    case hf59 => (intro wg hSw; go_simp <;> with_reducible rfl)
    simp only [Act.put, List.setIfInBounds_toArray, List.set_cons_zero, List.set_cons_succ]
    refine wpR_take growOrd (i := 31) (v := ?vf60) rfl (by kernel_rfl) (by kernel_rfl) (by kernel_rfl) (fun _ _ _ h => h) (by rfl) ?hf60 ?rf60
    case hf60 => (intro wg hSw; go_simp <;> with_reducible rfl)
    simp only [Act.put, List.setIfInBounds_toArray, List.set_cons_zero, List.set_cons_succ]
    refine wpR_take growOrd (i := 32) (v := ?vf61) rfl (by kernel_rfl) (by kernel_rfl) (by kernel_rfl) (fun _ _ _ h => h) (by rfl) ?hf61 ?rf61
    case hf61 => (intro wg hSw; go_simp <;> with_reducible rfl)
    simp only [Act.put, List.setIfInBounds_toArray, List.set_cons_zero, List.set_cons_succ]
    refine wpR_take growOrd (i := 33) (v := ?vf62) rfl (by kernel_rfl) (by kernel_rfl) (by kernel_rfl) (fun _ _ _ h => h) (by rfl) ?hf62 ?rf62
    case hf62 => (intro wg hSw; go_simp <;> with_reducible rfl)
    simp only [Act.put, List.setIfInBounds_toArray, List.set_cons_zero, List.set_cons_succ]
    refine wpR_take growOrd (i := 34) (v := Value.agg cs) rfl (by kernel_rfl) (by kernel_rfl) (by kernel_rfl) (fun _ _ _ h => h) (by rfl) ?hf63 ?rf63
    case hf63 => exact fun wg hSw => exec_tab rfl rfl (htb wg (Grow.trans (Grow.trans (Grow.trans (Grow.trans (Grow.trans (Grow.refl W0) hM13) hM14) hM26) hM27) hSw)) hs
    simp only [Act.put, List.setIfInBounds_toArray, List.set_cons_zero, List.set_cons_succ]
    refine wpR_take growOrd (i := 35) (v := ?vf64) rfl (by kernel_rfl) (by kernel_rfl) (by kernel_rfl) (fun _ _ _ h => h) (by rfl) ?hf64 ?rf64
    case hf64 => (intro wg hSw; go_simp <;> with_reducible rfl)
    simp only [Act.put, List.setIfInBounds_toArray, List.set_cons_zero, List.set_cons_succ]
    refine wpR_take growOrd (i := 38) (v := ?vf65) rfl (by kernel_rfl) (by kernel_rfl) (by kernel_rfl) (fun _ _ _ h => h) (by rfl) ?hf65 ?rf65
    case hf65 => (intro wg hSw; go_simp <;> with_reducible rfl)
    simp only [Act.put, List.setIfInBounds_toArray, List.set_cons_zero, List.set_cons_succ]
    refine wpR_one (i := 36) (by kernel_rfl) ?_
    refine wpR_op (i := 36) rfl (by rfl) (fun K hK => ?_)
    go_simp
    refine hK.out _ _ (grow_new _ _) ?_
    clear hK K
    try simp only [Act.put, List.setIfInBounds_toArray, List.set_cons_zero, List.set_cons_succ]
    generalize hwM36 : World.alloc wM27 (Obj.cells _ 28) = wM36
    have hM36 : Grow wM27 wM36 := by rw [← hwM36]; exact grow_new _ _
    have hB36 : Prts wM36 wM36.heap.size (some ⟨wM27.heap.size, 0, none⟩) [[], bs] := by
      rw [← hwM36]
      exact prts_lit wM27 [(none, 0, 0, []), (A, n, cap, bs)] (by
      intro x hx
      simp only [List.mem_cons, List.not_mem_nil, or_false] at hx
      rcases hx with rfl | rfl
      · exact ⟨rfl, fun _ => rfl, Nums.none_⟩
      · exact ⟨HN.out.symm, HC.out, HR.out.grow (hw0.trans (Grow.trans (Grow.trans (Grow.trans (Grow.trans (Grow.refl W0) hM13) hM14) hM26) hM27))⟩)
    clear hwM36
    refine wpR_one (i := 37) (by kernel_rfl) ?_
    refine wpR_op (i := 37) rfl (by rfl) (fun K hK => ?_)
    go_simp
    clear hcv27
    refine (sum_v _ 2 cs T [[], bs] wM36 M HT.out rfl (fits_of (by simp) (by
      intro q hq
      simp only [List.mem_cons, List.not_mem_nil, or_false] at hq
      rcases hq with rfl | rfl
      · exact ⟨by simp, byt_nil⟩
      · exact ⟨by rw [HN.out]; exact hl, HB.out⟩)) hB36 HV36.out).mono ?_
    rintro e wM37 ⟨rfl, hM37⟩
    refine hK.out _ _ hM37 ?_
    clear hK K
    try simp only [Act.put, List.setIfInBounds_toArray, List.set_cons_zero, List.set_cons_succ]
    refine wpR_take growOrd (i := 39) (v := ?vf66) rfl (by kernel_rfl) (by kernel_rfl) (by kernel_rfl) (fun _ _ _ h => h) (by rfl) ?hf66 ?rf66
    case hf66 => (intro wg hSw; go_simp <;> with_reducible rfl)
    simp only [Act.put, List.setIfInBounds_toArray, List.set_cons_zero, List.set_cons_succ]
    refine wpR_take growOrd (i := 40) (v := ?vf67) rfl (by kernel_rfl) (by kernel_rfl) (by kernel_rfl) (fun _ _ _ h => h) (by rfl) ?hf67 ?rf67
    case hf67 => (intro wg hSw; go_simp <;> with_reducible rfl)
    simp only [Act.put, List.setIfInBounds_toArray, List.set_cons_zero, List.set_cons_succ]
    refine wpR_take growOrd (i := 41) (v := ?vf68) rfl (by kernel_rfl) (by kernel_rfl) (by kernel_rfl) (fun _ _ _ h => h) (by rfl) ?hf68 ?rf68
    case hf68 => (intro wg hSw; go_simp <;> with_reducible rfl)
    simp only [Act.put, List.setIfInBounds_toArray, List.set_cons_zero, List.set_cons_succ]
    refine wpR_done (by kernel_rfl) ?_
    go_wp2
    go_ret
    exact ⟨rfl, hw0.trans (Grow.trans (Grow.trans (Grow.trans (Grow.trans (Grow.trans (Grow.trans (Grow.refl W0) hM13) hM14) hM26) hM27) hM36) hM37)⟩
  simp only [hA, Act.put, List.setIfInBounds_toArray, List.set_cons_zero, List.set_cons_succ] at s5_6_14_15_24_25_29_30_37
  have S5_6_14_15_24_25_29_30_37 := Lib.hid s5_6_14_15_24_25_29_30_37
  clear s5_6_14_15_24_25_29_30_37
  have s5_6_14_15_24_25_29_30 : ∀ wS : World, Grow W0 wS → ∀ g5 : Nat, ∀ g14 : Nat, ∀ g24 : Nat, ∀ g29 : Nat, wpR Grow Try.prog .any l'.toArray Q' 3 #[true, true, true, true, true, true, true, true, true, true, true, true, true, true, true, true, true, true, true, true, true, true, true, true, true, true, true, true, true, true, true, true, true, true, true, true, true, false, true, false, false] (Act.put (Act.put (Act.put (Act.put (Act.put (Act.put (Act.put (Act.put (Act.put (Act.put (Act.put (Act.put (Act.put (Act.put (Act.put (Act.put (Act.put (Act.put (Act.put (Act.put (Act.put (Act.put (Act.put (Act.put (Act.put A0 (some 45) (.slice (some ⟨g5, 0, none⟩) 1 1)) (some 46) (.int .u32 (S1 : Int))) (some 54) (.slice (some ⟨g14, 0, none⟩) 2 2)) (some 55) (.int .u32 (M : Int))) (some 57) (.bool false)) (some 58) (.bool false)) (some 59) (.agg cs)) (some 60) (.agg cs)) (some 61) (.slice A n cap)) (some 62) (.int .i64 (k : Int))) (some 63) (.slice A k cap)) (some 64) (.slice (some ⟨g24, 0, none⟩) 1 1)) (some 65) (.int .u32 (S2 : Int))) (some 66) (.slice A n cap)) (some 67) (.int .i64 (k : Int))) (some 68) (.slice AK (n - k) (cap - k))) (some 69) (.slice (some ⟨g29, 0, none⟩) 1 1)) (some 70) (.int .u32 (M : Int))) (some 71) (.int .u32 (M : Int))) (some 72) (.bool false)) (some 73) (.bool false)) (some 74) (.bool false)) (some 75) (.agg cs)) (some 76) (.int .u32 (M : Int))) (some 78) (.int .u32 (M : Int))) wS := by
    intro wS hGS g5 g14 g24 g29 
    subst hl hQ
    rw [hA]
    clear hA
    simp only [Act.put, List.setIfInBounds_toArray, List.set_cons_zero, List.set_cons_succ]
    refine wpR_one (i := 37) (by kernel_rfl) ?_
    refine wpR_op (i := 37) rfl (by rfl) (fun K hK => ?_)
    go_simp
    refine (more_v none 0 cs T M [] wS M HT.out hlM.out rfl (fits_of (by simp) (by simp)) Prts.none_ HV37.out).mono ?_
    rintro e wM ⟨rfl, hM⟩
    refine hK.out _ _ hM ?_
    clear hK K
    try simp only [Act.put, List.setIfInBounds_toArray, List.set_cons_zero, List.set_cons_succ]
    refine wpR_to #[true, true, true, true, true, true, true, true, true, true, true, true, true, true, true, true, true, true, true, true, true, true, true, true, true, true, true, true, true, true, true, true, true, true, true, true, true, true, true, false, false] (by kernel_rfl) ?_
    exact S5_6_14_15_24_25_29_30_37.out wM (hGS.trans hM) g5 g14 g24 g29 
  simp only [hA, Act.put, List.setIfInBounds_toArray, List.set_cons_zero, List.set_cons_succ] at s5_6_14_15_24_25_29_30
  have S5_6_14_15_24_25_29_30 := Lib.hid s5_6_14_15_24_25_29_30
  clear s5_6_14_15_24_25_29_30
  have s5_6_14_15_24_25_29 : ∀ wS : World, Grow W0 wS → ∀ g5 : Nat, ∀ g14 : Nat, ∀ g24 : Nat, ∀ g29 : Nat, Prts wS wS.heap.size (some ⟨g29, 0, none⟩) [bs.drop k] → wpR Grow Try.prog .any l'.toArray Q' 10 #[true, true, true, true, true, true, true, true, true, true, true, true, true, true, true, true, true, true, true, true, true, true, true, true, true, true, true, true, true, true, false, true, false, false, false, false, false, false, false, false, false] (Act.put (Act.put (Act.put (Act.put (Act.put (Act.put (Act.put (Act.put (Act.put (Act.put (Act.put (Act.put (Act.put (Act.put (Act.put (Act.put (Act.put (Act.put A0 (some 45) (.slice (some ⟨g5, 0, none⟩) 1 1)) (some 46) (.int .u32 (S1 : Int))) (some 54) (.slice (some ⟨g14, 0, none⟩) 2 2)) (some 55) (.int .u32 (M : Int))) (some 57) (.bool false)) (some 58) (.bool false)) (some 59) (.agg cs)) (some 60) (.agg cs)) (some 61) (.slice A n cap)) (some 62) (.int .i64 (k : Int))) (some 63) (.slice A k cap)) (some 64) (.slice (some ⟨g24, 0, none⟩) 1 1)) (some 65) (.int .u32 (S2 : Int))) (some 66) (.slice A n cap)) (some 67) (.int .i64 (k : Int))) (some 68) (.slice AK (n - k) (cap - k))) (some 69) (.slice (some ⟨g29, 0, none⟩) 1 1)) (some 71) (.int .u32 (M : Int))) wS := by
    intro wS hGS g5 g14 g24 g29 hB29
    subst hl hQ
    rw [hA]
    clear hA
    simp only [Act.put, List.setIfInBounds_toArray, List.set_cons_zero, List.set_cons_succ]
    refine wpR_one (i := 30) (by kernel_rfl) ?_
    refine wpR_op (i := 30) rfl (by rfl) (fun K hK => ?_)
    go_simp
    refine (more_v _ 1 cs T S2 [bs.drop k] wS M HT.out hl2.out rfl (HFI.out _ (by rw [← LD.out]; omega) (HB.out.drop k)) hB29 HV30.out).mono ?_
    rintro e wM ⟨rfl, hM⟩
    refine hK.out _ _ hM ?_
    clear hK K
    try simp only [Act.put, List.setIfInBounds_toArray, List.set_cons_zero, List.set_cons_succ]
    refine wpR_take growOrd (i := 32) (v := ?vf16) rfl (by kernel_rfl) (by kernel_rfl) (by kernel_rfl) (fun _ _ _ h => h) (by rfl) ?hf16 ?rf16
    case hf16 => (intro wg hSw; go_simp <;> with_reducible rfl)
    simp only [Act.put, List.setIfInBounds_toArray, List.set_cons_zero, List.set_cons_succ]
    refine wpR_take growOrd (i := 33) (v := ?vf17) rfl (by kernel_rfl) (by kernel_rfl) (by kernel_rfl) (fun _ _ _ h => h) (by rfl) ?hf17 ?rf17
    case hf17 => (intro wg hSw; go_simp <;> with_reducible rfl)
    simp only [Act.put, List.setIfInBounds_toArray, List.set_cons_zero, List.set_cons_succ]
    refine wpR_take growOrd (i := 34) (v := ?vf18) rfl (by kernel_rfl) (by kernel_rfl) (by kernel_rfl) (fun _ _ _ h => h) (by rfl) ?hf18 ?rf18
    case hf18 => (intro wg hSw; go_simp <;> with_reducible rfl)
    simp only [Act.put, List.setIfInBounds_toArray, List.set_cons_zero, List.set_cons_succ]
    refine wpR_take growOrd (i := 35) (v := Value.agg cs) rfl (by kernel_rfl) (by kernel_rfl) (by kernel_rfl) (fun _ _ _ h => h) (by rfl) ?hf19 ?rf19
    case hf19 => exact fun wg hSw => exec_tab rfl rfl (htb wg (Grow.trans (hGS.trans hM) hSw)) hs
    simp only [Act.put, List.setIfInBounds_toArray, List.set_cons_zero, List.set_cons_succ]
    refine wpR_take growOrd (i := 36) (v := ?vf20) rfl (by kernel_rfl) (by kernel_rfl) (by kernel_rfl) (fun _ _ _ h => h) (by rfl) ?hf20 ?rf20
    case hf20 => (intro wg hSw; go_simp <;> with_reducible rfl)
    simp only [Act.put, List.setIfInBounds_toArray, List.set_cons_zero, List.set_cons_succ]
    refine wpR_take growOrd (i := 38) (v := ?vf21) rfl (by kernel_rfl) (by kernel_rfl) (by kernel_rfl) (fun _ _ _ h => h) (by rfl) ?hf21 ?rf21
    case hf21 => (intro wg hSw; go_simp <;> with_reducible rfl)
    simp only [Act.put, List.setIfInBounds_toArray, List.set_cons_zero, List.set_cons_succ]
    refine wpR_to #[true, true, true, true, true, true, true, true, true, true, true, true, true, true, true, true, true, true, true, true, true, true, true, true, true, true, true, true, true, true, true, true, true, true, true, true, true, false, true, false, false] (by kernel_rfl) ?_
    exact S5_6_14_15_24_25_29_30.out wM (hGS.trans hM) g5 g14 g24 g29 
  simp only [hA, Act.put, List.setIfInBounds_toArray, List.set_cons_zero, List.set_cons_succ] at s5_6_14_15_24_25_29
  have S5_6_14_15_24_25_29 := Lib.hid s5_6_14_15_24_25_29
  clear s5_6_14_15_24_25_29
  have s5_6_14_15_24_25 : ∀ wS : World, Grow W0 wS → ∀ g5 : Nat, ∀ g14 : Nat, ∀ g24 : Nat, wpR Grow Try.prog .any l'.toArray Q' 11 #[true, true, true, true, true, true, true, true, true, true, true, true, true, true, true, true, true, true, true, true, true, true, true, true, true, true, true, true, true, false, false, true, false, false, false, false, false, false, false, false, false] (Act.put (Act.put (Act.put (Act.put (Act.put (Act.put (Act.put (Act.put (Act.put (Act.put (Act.put (Act.put (Act.put (Act.put (Act.put (Act.put (Act.put A0 (some 45) (.slice (some ⟨g5, 0, none⟩) 1 1)) (some 46) (.int .u32 (S1 : Int))) (some 54) (.slice (some ⟨g14, 0, none⟩) 2 2)) (some 55) (.int .u32 (M : Int))) (some 57) (.bool false)) (some 58) (.bool false)) (some 59) (.agg cs)) (some 60) (.agg cs)) (some 61) (.slice A n cap)) (some 62) (.int .i64 (k : Int))) (some 63) (.slice A k cap)) (some 64) (.slice (some ⟨g24, 0, none⟩) 1 1)) (some 65) (.int .u32 (S2 : Int))) (some 66) (.slice A n cap)) (some 67) (.int .i64 (k : Int))) (some 68) (.slice AK (n - k) (cap - k))) (some 71) (.int .u32 (M : Int))) wS := by
    intro wS hGS g5 g14 g24 
    subst hl hQ
    rw [hA]
    clear hA
    simp only [Act.put, List.setIfInBounds_toArray, List.set_cons_zero, List.set_cons_succ]
    refine wpR_one (i := 29) (by kernel_rfl) ?_
    refine wpR_op (i := 29) rfl (by rfl) (fun K hK => ?_)
    go_simp
    refine hK.out _ _ (grow_new _ _) ?_
    clear hK K
    try simp only [Act.put, List.setIfInBounds_toArray, List.set_cons_zero, List.set_cons_succ]
    generalize hwM : World.alloc wS (Obj.cells _ 28) = wM
    have hM : Grow wS wM := by rw [← hwM]; exact grow_new _ _
    have hN : Prts wM wM.heap.size (some ⟨wS.heap.size, 0, none⟩) [bs.drop k] := by
      rw [← hwM]
      exact prts_lit1 wS AK (n - k) (cap - k) (bs.drop k) LD.out HNK.out (XK.out _ (hw0.trans hGS))
    refine wpR_to #[true, true, true, true, true, true, true, true, true, true, true, true, true, true, true, true, true, true, true, true, true, true, true, true, true, true, true, true, true, true, false, true, false, false, false, false, false, false, false, false, false] (by kernel_rfl) ?_
    exact S5_6_14_15_24_25_29.out wM (hGS.trans hM) g5 g14 g24 wS.heap.size hN
  simp only [hA, Act.put, List.setIfInBounds_toArray, List.set_cons_zero, List.set_cons_succ] at s5_6_14_15_24_25
  have S5_6_14_15_24_25 := Lib.hid s5_6_14_15_24_25
  clear s5_6_14_15_24_25
  have s5_6_14_15_24_29 : ∀ wS : World, Grow W0 wS → ∀ g5 : Nat, ∀ g14 : Nat, ∀ g24 : Nat, ∀ g29 : Nat, Prts wS wS.heap.size (some ⟨g24, 0, none⟩) [bs.take k] → Prts wS wS.heap.size (some ⟨g29, 0, none⟩) [bs.drop k] → wpR Grow Try.prog .any l'.toArray Q' 11 #[true, true, true, true, true, true, true, true, true, true, true, true, true, true, true, true, true, true, true, true, true, true, true, true, true, false, true, true, true, true, false, true, false, false, false, false, false, false, false, false, false] (Act.put (Act.put (Act.put (Act.put (Act.put (Act.put (Act.put (Act.put (Act.put (Act.put (Act.put (Act.put (Act.put (Act.put (Act.put (Act.put (Act.put A0 (some 45) (.slice (some ⟨g5, 0, none⟩) 1 1)) (some 46) (.int .u32 (S1 : Int))) (some 54) (.slice (some ⟨g14, 0, none⟩) 2 2)) (some 55) (.int .u32 (M : Int))) (some 57) (.bool false)) (some 58) (.bool false)) (some 59) (.agg cs)) (some 60) (.agg cs)) (some 61) (.slice A n cap)) (some 62) (.int .i64 (k : Int))) (some 63) (.slice A k cap)) (some 64) (.slice (some ⟨g24, 0, none⟩) 1 1)) (some 66) (.slice A n cap)) (some 67) (.int .i64 (k : Int))) (some 68) (.slice AK (n - k) (cap - k))) (some 69) (.slice (some ⟨g29, 0, none⟩) 1 1)) (some 71) (.int .u32 (M : Int))) wS := by
    intro wS hGS g5 g14 g24 g29 hB24 hB29
    subst hl hQ
    rw [hA]
    clear hA
    simp only [Act.put, List.setIfInBounds_toArray, List.set_cons_zero, List.set_cons_succ]
    refine wpR_one (i := 25) (by kernel_rfl) ?_
    refine wpR_op (i := 25) rfl (by rfl) (fun K hK => ?_)
    go_simp
    refine (more_v _ 1 cs T 0 [bs.take k] wS S2 HT.out (by decide) rfl (HFI.out _ (by rw [← LK.out]; omega) (HB.out.take k)) hB24 HV2.out).mono ?_
    rintro e wM ⟨rfl, hM⟩
    refine hK.out _ _ hM ?_
    clear hK K
    try simp only [Act.put, List.setIfInBounds_toArray, List.set_cons_zero, List.set_cons_succ]
    refine wpR_to #[true, true, true, true, true, true, true, true, true, true, true, true, true, true, true, true, true, true, true, true, true, true, true, true, true, true, true, true, true, true, false, true, false, false, false, false, false, false, false, false, false] (by kernel_rfl) ?_
    exact S5_6_14_15_24_25_29.out wM (hGS.trans hM) g5 g14 g24 g29 (hB29.grow hM)
  simp only [hA, Act.put, List.setIfInBounds_toArray, List.set_cons_zero, List.set_cons_succ] at s5_6_14_15_24_29
  have S5_6_14_15_24_29 := Lib.hid s5_6_14_15_24_29
  clear s5_6_14_15_24_29
  have s5_6_14_15_24 : ∀ wS : World, Grow W0 wS → ∀ g5 : Nat, ∀ g14 : Nat, ∀ g24 : Nat, Prts wS wS.heap.size (some ⟨g24, 0, none⟩) [bs.take k] → wpR Grow Try.prog .any l'.toArray Q' 12 #[true, true, true, true, true, true, true, true, true, true, true, true, true, true, true, true, true, true, true, true, true, true, true, true, true, false, true, true, true, false, false, true, false, false, false, false, false, false, false, false, false] (Act.put (Act.put (Act.put (Act.put (Act.put (Act.put (Act.put (Act.put (Act.put (Act.put (Act.put (Act.put (Act.put (Act.put (Act.put (Act.put A0 (some 45) (.slice (some ⟨g5, 0, none⟩) 1 1)) (some 46) (.int .u32 (S1 : Int))) (some 54) (.slice (some ⟨g14, 0, none⟩) 2 2)) (some 55) (.int .u32 (M : Int))) (some 57) (.bool false)) (some 58) (.bool false)) (some 59) (.agg cs)) (some 60) (.agg cs)) (some 61) (.slice A n cap)) (some 62) (.int .i64 (k : Int))) (some 63) (.slice A k cap)) (some 64) (.slice (some ⟨g24, 0, none⟩) 1 1)) (some 66) (.slice A n cap)) (some 67) (.int .i64 (k : Int))) (some 68) (.slice AK (n - k) (cap - k))) (some 71) (.int .u32 (M : Int))) wS := by
    intro wS hGS g5 g14 g24 hB24
    subst hl hQ
    rw [hA]
    clear hA
    simp only [Act.put, List.setIfInBounds_toArray, List.set_cons_zero, List.set_cons_succ]
    refine wpR_two (i := 25) (j := 29) (by kernel_rfl) ?_ ?_
    · refine wpR_op (i := 25) rfl (by rfl) (fun K hK => ?_)
      go_simp
      refine (more_v _ 1 cs T 0 [bs.take k] wS S2 HT.out (by decide) rfl (HFI.out _ (by rw [← LK.out]; omega) (HB.out.take k)) hB24 HV2.out).mono ?_
      rintro e wM ⟨rfl, hM⟩
      refine hK.out _ _ hM ?_
      clear hK K
      try simp only [Act.put, List.setIfInBounds_toArray, List.set_cons_zero, List.set_cons_succ]
      refine wpR_to #[true, true, true, true, true, true, true, true, true, true, true, true, true, true, true, true, true, true, true, true, true, true, true, true, true, true, true, true, true, false, false, true, false, false, false, false, false, false, false, false, false] (by kernel_rfl) ?_
      exact S5_6_14_15_24_25.out wM (hGS.trans hM) g5 g14 g24 
    · refine wpR_op (i := 29) rfl (by rfl) (fun K hK => ?_)
      go_simp
      refine hK.out _ _ (grow_new _ _) ?_
      clear hK K
      try simp only [Act.put, List.setIfInBounds_toArray, List.set_cons_zero, List.set_cons_succ]
      generalize hwM : World.alloc wS (Obj.cells _ 28) = wM
      have hM : Grow wS wM := by rw [← hwM]; exact grow_new _ _
      have hN : Prts wM wM.heap.size (some ⟨wS.heap.size, 0, none⟩) [bs.drop k] := by
        rw [← hwM]
        exact prts_lit1 wS AK (n - k) (cap - k) (bs.drop k) LD.out HNK.out (XK.out _ (hw0.trans hGS))
      refine wpR_to #[true, true, true, true, true, true, true, true, true, true, true, true, true, true, true, true, true, true, true, true, true, true, true, true, true, false, true, true, true, true, false, true, false, false, false, false, false, false, false, false, false] (by kernel_rfl) ?_
      exact S5_6_14_15_24_29.out wM (hGS.trans hM) g5 g14 g24 wS.heap.size (hB24.grow hM) hN
  simp only [hA, Act.put, List.setIfInBounds_toArray, List.set_cons_zero, List.set_cons_succ] at s5_6_14_15_24
  have S5_6_14_15_24 := Lib.hid s5_6_14_15_24
  clear s5_6_14_15_24
  have s5_6_14_15_29 : ∀ wS : World, Grow W0 wS → ∀ g5 : Nat, ∀ g14 : Nat, ∀ g29 : Nat, Prts wS wS.heap.size (some ⟨g29, 0, none⟩) [bs.drop k] → wpR Grow Try.prog .any l'.toArray Q' 12 #[true, true, true, true, true, true, true, true, true, true, true, true, true, true, true, true, true, true, true, true, true, true, true, true, false, false, true, true, true, true, false, true, false, false, false, false, false, false, false, false, false] (Act.put (Act.put (Act.put (Act.put (Act.put (Act.put (Act.put (Act.put (Act.put (Act.put (Act.put (Act.put (Act.put (Act.put (Act.put (Act.put A0 (some 45) (.slice (some ⟨g5, 0, none⟩) 1 1)) (some 46) (.int .u32 (S1 : Int))) (some 54) (.slice (some ⟨g14, 0, none⟩) 2 2)) (some 55) (.int .u32 (M : Int))) (some 57) (.bool false)) (some 58) (.bool false)) (some 59) (.agg cs)) (some 60) (.agg cs)) (some 61) (.slice A n cap)) (some 62) (.int .i64 (k : Int))) (some 63) (.slice A k cap)) (some 66) (.slice A n cap)) (some 67) (.int .i64 (k : Int))) (some 68) (.slice AK (n - k) (cap - k))) (some 69) (.slice (some ⟨g29, 0, none⟩) 1 1)) (some 71) (.int .u32 (M : Int))) wS := by
    intro wS hGS g5 g14 g29 hB29
    subst hl hQ
    rw [hA]
    clear hA
    simp only [Act.put, List.setIfInBounds_toArray, List.set_cons_zero, List.set_cons_succ]
    refine wpR_one (i := 24) (by kernel_rfl) ?_
    refine wpR_op (i := 24) rfl (by rfl) (fun K hK => ?_)
    go_simp
    refine hK.out _ _ (grow_new _ _) ?_
    clear hK K
    try simp only [Act.put, List.setIfInBounds_toArray, List.set_cons_zero, List.set_cons_succ]
    generalize hwM : World.alloc wS (Obj.cells _ 28) = wM
    have hM : Grow wS wM := by rw [← hwM]; exact grow_new _ _
    have hN : Prts wM wM.heap.size (some ⟨wS.heap.size, 0, none⟩) [bs.take k] := by
      rw [← hwM]
      exact prts_lit1 wS A k cap (bs.take k) LK.out HC.out ((HR.out.grow (hw0.trans hGS)).take k)
    refine wpR_to #[true, true, true, true, true, true, true, true, true, true, true, true, true, true, true, true, true, true, true, true, true, true, true, true, true, false, true, true, true, true, false, true, false, false, false, false, false, false, false, false, false] (by kernel_rfl) ?_
    exact S5_6_14_15_24_29.out wM (hGS.trans hM) g5 g14 wS.heap.size g29 hN (hB29.grow hM)
  simp only [hA, Act.put, List.setIfInBounds_toArray, List.set_cons_zero, List.set_cons_succ] at s5_6_14_15_29
  have S5_6_14_15_29 := Lib.hid s5_6_14_15_29
  clear s5_6_14_15_29
  have s5_6_14_15 : ∀ wS : World, Grow W0 wS → ∀ g5 : Nat, ∀ g14 : Nat, wpR Grow Try.prog .any l'.toArray Q' 13 #[true, true, true, true, true, true, true, true, true, true, true, true, true, true, true, true, true, true, true, true, true, true, true, true, false, false, true, true, true, false, false, true, false, false, false, false, false, false, false, false, false] (Act.put (Act.put (Act.put (Act.put (Act.put (Act.put (Act.put (Act.put (Act.put (Act.put (Act.put (Act.put (Act.put (Act.put (Act.put A0 (some 45) (.slice (some ⟨g5, 0, none⟩) 1 1)) (some 46) (.int .u32 (S1 : Int))) (some 54) (.slice (some ⟨g14, 0, none⟩) 2 2)) (some 55) (.int .u32 (M : Int))) (some 57) (.bool false)) (some 58) (.bool false)) (some 59) (.agg cs)) (some 60) (.agg cs)) (some 61) (.slice A n cap)) (some 62) (.int .i64 (k : Int))) (some 63) (.slice A k cap)) (some 66) (.slice A n cap)) (some 67) (.int .i64 (k : Int))) (some 68) (.slice AK (n - k) (cap - k))) (some 71) (.int .u32 (M : Int))) wS := by
    intro wS hGS g5 g14 
    subst hl hQ
    rw [hA]
    clear hA
    simp only [Act.put, List.setIfInBounds_toArray, List.set_cons_zero, List.set_cons_succ]
    refine wpR_two (i := 24) (j := 29) (by kernel_rfl) ?_ ?_
    · refine wpR_op (i := 24) rfl (by rfl) (fun K hK => ?_)
      go_simp
      refine hK.out _ _ (grow_new _ _) ?_
      clear hK K
      try simp only [Act.put, List.setIfInBounds_toArray, List.set_cons_zero, List.set_cons_succ]
      generalize hwM : World.alloc wS (Obj.cells _ 28) = wM
      have hM : Grow wS wM := by rw [← hwM]; exact grow_new _ _
      have hN : Prts wM wM.heap.size (some ⟨wS.heap.size, 0, none⟩) [bs.take k] := by
        rw [← hwM]
        exact prts_lit1 wS A k cap (bs.take k) LK.out HC.out ((HR.out.grow (hw0.trans hGS)).take k)
      refine wpR_to #[true, true, true, true, true, true, true, true, true, true, true, true, true, true, true, true, true, true, true, true, true, true, true, true, true, false, true, true, true, false, false, true, false, false, false, false, false, false, false, false, false] (by kernel_rfl) ?_
      exact S5_6_14_15_24.out wM (hGS.trans hM) g5 g14 wS.heap.size hN
    · refine wpR_op (i := 29) rfl (by rfl) (fun K hK => ?_)
      go_simp
      refine hK.out _ _ (grow_new _ _) ?_
      clear hK K
      try simp only [Act.put, List.setIfInBounds_toArray, List.set_cons_zero, List.set_cons_succ]
      generalize hwM : World.alloc wS (Obj.cells _ 28) = wM
      have hM : Grow wS wM := by rw [← hwM]; exact grow_new _ _
      have hN : Prts wM wM.heap.size (some ⟨wS.heap.size, 0, none⟩) [bs.drop k] := by
        rw [← hwM]
        exact prts_lit1 wS AK (n - k) (cap - k) (bs.drop k) LD.out HNK.out (XK.out _ (hw0.trans hGS))
      refine wpR_to #[true, true, true, true, true, true, true, true, true, true, true, true, true, true, true, true, true, true, true, true, true, true, true, true, false, false, true, true, true, true, false, true, false, false, false, false, false, false, false, false, false] (by kernel_rfl) ?_
      exact S5_6_14_15_29.out wM (hGS.trans hM) g5 g14 wS.heap.size hN
  simp only [hA, Act.put, List.setIfInBounds_toArray, List.set_cons_zero, List.set_cons_succ] at s5_6_14_15
  have S5_6_14_15 := Lib.hid s5_6_14_15
  clear s5_6_14_15
  have s5_6_14 : ∀ wS : World, Grow W0 wS → ∀ g5 : Nat, ∀ g14 : Nat, Prts wS wS.heap.size (some ⟨g14, 0, none⟩) [(bs.take k).drop i, bs.drop k] → wpR Grow Try.prog .any l'.toArray Q' 25 #[true, true, true, true, true, true, true, true, true, true, true, true, true, true, true, false, true, false, false, false, false, false, false, false, false, false, false, false, false, false, false, false, false, false, false, false, false, false, false, false, false] (Act.put (Act.put (Act.put A0 (some 45) (.slice (some ⟨g5, 0, none⟩) 1 1)) (some 46) (.int .u32 (S1 : Int))) (some 54) (.slice (some ⟨g14, 0, none⟩) 2 2)) wS := by
    intro wS hGS g5 g14 hB14
    subst hl hQ
    rw [hA]
    clear hA
    simp only [Act.put, List.setIfInBounds_toArray, List.set_cons_zero, List.set_cons_succ]
    refine wpR_one (i := 15) (by kernel_rfl) ?_
    refine wpR_op (i := 15) rfl (by rfl) (fun K hK => ?_)
    go_simp
    refine (more_v _ 2 cs T S1 [(bs.take k).drop i, bs.drop k] wS M HT.out hl1.out rfl (fits_of (by simp) (by
      intro q hq
      simp only [List.mem_cons, List.not_mem_nil, or_false] at hq
      rcases hq with rfl | rfl
      · exact ⟨by rw [← LIK.out]; omega, (HB.out.take k).drop i⟩
      · exact ⟨by rw [← LD.out]; omega, HB.out.drop k⟩)) hB14 HV15.out).mono ?_
    rintro e wM ⟨rfl, hM⟩
    refine hK.out _ _ hM ?_
    clear hK K
    try simp only [Act.put, List.setIfInBounds_toArray, List.set_cons_zero, List.set_cons_succ]
    refine wpR_take growOrd (i := 17) (v := ?vf22) rfl (by kernel_rfl) (by kernel_rfl) (by kernel_rfl) (fun _ _ _ h => h) (by rfl) ?hf22 ?rf22
    case hf22 => (intro wg hSw; go_simp <;> with_reducible rfl)
    simp only [Act.put, List.setIfInBounds_toArray, List.set_cons_zero, List.set_cons_succ]
    refine wpR_take growOrd (i := 18) (v := ?vf23) rfl (by kernel_rfl) (by kernel_rfl) (by kernel_rfl) (fun _ _ _ h => h) (by rfl) ?hf23 ?rf23
    case hf23 => (intro wg hSw; go_simp <;> with_reducible rfl)
    simp only [Act.put, List.setIfInBounds_toArray, List.set_cons_zero, List.set_cons_succ]
    refine wpR_take growOrd (i := 19) (v := Value.agg cs) rfl (by kernel_rfl) (by kernel_rfl) (by kernel_rfl) (fun _ _ _ h => h) (by rfl) ?hf24 ?rf24
    case hf24 => exact fun wg hSw => exec_tab rfl rfl (htb wg (Grow.trans (hGS.trans hM) hSw)) hs
    simp only [Act.put, List.setIfInBounds_toArray, List.set_cons_zero, List.set_cons_succ]
    refine wpR_take growOrd (i := 20) (v := Value.agg cs) rfl (by kernel_rfl) (by kernel_rfl) (by kernel_rfl) (fun _ _ _ h => h) (by rfl) ?hf25 ?rf25
    case hf25 => exact fun wg hSw => exec_tab rfl rfl (htb wg (Grow.trans (hGS.trans hM) hSw)) hs
    simp only [Act.put, List.setIfInBounds_toArray, List.set_cons_zero, List.set_cons_succ]
    refine wpR_take growOrd (i := 21) (v := ?vf26) rfl (by kernel_rfl) (by kernel_rfl) (by kernel_rfl) (fun _ _ _ h => h) (by rfl) ?hf26 ?rf26
    case hf26 => (intro wg hSw; go_simp <;> with_reducible rfl)
    simp only [Act.put, List.setIfInBounds_toArray, List.set_cons_zero, List.set_cons_succ]
    refine wpR_take growOrd (i := 22) (v := ?vf27) rfl (by kernel_rfl) (by kernel_rfl) (by kernel_rfl) (fun _ _ _ h => h) (by rfl) ?hf27 ?rf27
    case hf27 => (intro wg hSw; go_simp <;> with_reducible rfl)
    simp only [Act.put, List.setIfInBounds_toArray, List.set_cons_zero, List.set_cons_succ]
    refine wpR_take growOrd (i := 23) (v := ?vf28) rfl (by kernel_rfl) (by kernel_rfl) (by kernel_rfl) (fun _ _ _ h => h) (by rfl) ?hf28 ?rf28
    case hf28 => (intro wg hSw; go_simp <;> with_reducible rfl)
    simp only [Act.put, List.setIfInBounds_toArray, List.set_cons_zero, List.set_cons_succ]
    refine wpR_take growOrd (i := 26) (v := ?vf29) rfl (by kernel_rfl) (by kernel_rfl) (by kernel_rfl) (fun _ _ _ h => h) (by rfl) ?hf29 ?rf29
    case hf29 => (intro wg hSw; go_simp <;> with_reducible rfl)
    simp only [Act.put, List.setIfInBounds_toArray, List.set_cons_zero, List.set_cons_succ]
    refine wpR_take growOrd (i := 27) (v := ?vf30) rfl (by kernel_rfl) (by kernel_rfl) (by kernel_rfl) (fun _ _ _ h => h) (by rfl) ?hf30 ?rf30
    case hf30 => (intro wg hSw; go_simp <;> with_reducible rfl)
    simp only [Act.put, List.setIfInBounds_toArray, List.set_cons_zero, List.set_cons_succ]
    refine wpR_take growOrd (i := 28) (v := ?vf31) rfl (by kernel_rfl) (by kernel_rfl) (by kernel_rfl) (fun _ _ _ h => h) (by rfl) ?hf31 ?rf31
    case hf31 => (intro wg hSw; go_simp <;> with_reducible rfl)
    simp only [Act.put, List.setIfInBounds_toArray, List.set_cons_zero, List.set_cons_succ]
    refine wpR_take growOrd (i := 31) (v := ?vf32) rfl (by kernel_rfl) (by kernel_rfl) (by kernel_rfl) (fun _ _ _ h => h) (by rfl) ?hf32 ?rf32
    case hf32 => (intro wg hSw; go_simp <;> with_reducible rfl)
    simp only [Act.put, List.setIfInBounds_toArray, List.set_cons_zero, List.set_cons_succ]
    refine wpR_to #[true, true, true, true, true, true, true, true, true, true, true, true, true, true, true, true, true, true, true, true, true, true, true, true, false, false, true, true, true, false, false, true, false, false, false, false, false, false, false, false, false] (by kernel_rfl) ?_
    exact S5_6_14_15.out wM (hGS.trans hM) g5 g14 
  simp only [hA, Act.put, List.setIfInBounds_toArray, List.set_cons_zero, List.set_cons_succ] at s5_6_14
  have S5_6_14 := Lib.hid s5_6_14
  clear s5_6_14
  have s5_6 : ∀ wS : World, Grow W0 wS → ∀ g5 : Nat, wpR Grow Try.prog .any l'.toArray Q' 26 #[true, true, true, true, true, true, true, true, true, true, true, true, true, true, false, false, true, false, false, false, false, false, false, false, false, false, false, false, false, false, false, false, false, false, false, false, false, false, false, false, false] (Act.put (Act.put A0 (some 45) (.slice (some ⟨g5, 0, none⟩) 1 1)) (some 46) (.int .u32 (S1 : Int))) wS := by
    intro wS hGS g5 
    subst hl hQ
    rw [hA]
    clear hA
    simp only [Act.put, List.setIfInBounds_toArray, List.set_cons_zero, List.set_cons_succ]
    refine wpR_one (i := 14) (by kernel_rfl) ?_
    refine wpR_op (i := 14) rfl (by rfl) (fun K hK => ?_)
    go_simp
    refine hK.out _ _ (grow_new _ _) ?_
    clear hK K
    try simp only [Act.put, List.setIfInBounds_toArray, List.set_cons_zero, List.set_cons_succ]
    generalize hwM : World.alloc wS (Obj.cells _ 28) = wM
    have hM : Grow wS wM := by rw [← hwM]; exact grow_new _ _
    have hN : Prts wM wM.heap.size (some ⟨wS.heap.size, 0, none⟩) [(bs.take k).drop i, bs.drop k] := by
      rw [← hwM]
      exact prts_lit wS [(AI, k - i, cap - i, (bs.take k).drop i), (AK, n - k, cap - k, bs.drop k)] (by
      intro x hx
      simp only [List.mem_cons, List.not_mem_nil, or_false] at hx
      rcases hx with rfl | rfl
      · exact ⟨LIK.out, HNI.out, XI.out _ (hw0.trans hGS)⟩
      · exact ⟨LD.out, HNK.out, XK.out _ (hw0.trans hGS)⟩)
    refine wpR_to #[true, true, true, true, true, true, true, true, true, true, true, true, true, true, true, false, true, false, false, false, false, false, false, false, false, false, false, false, false, false, false, false, false, false, false, false, false, false, false, false, false] (by kernel_rfl) ?_
    exact S5_6_14.out wM (hGS.trans hM) g5 wS.heap.size hN
  simp only [hA, Act.put, List.setIfInBounds_toArray, List.set_cons_zero, List.set_cons_succ] at s5_6
  have S5_6 := Lib.hid s5_6
  clear s5_6
  have s5_14 : ∀ wS : World, Grow W0 wS → ∀ g5 : Nat, ∀ g14 : Nat, Prts wS wS.heap.size (some ⟨g5, 0, none⟩) [bs.take i] → Prts wS wS.heap.size (some ⟨g14, 0, none⟩) [(bs.take k).drop i, bs.drop k] → wpR Grow Try.prog .any l'.toArray Q' 26 #[true, true, true, true, true, true, false, true, true, true, true, true, true, true, true, false, true, false, false, false, false, false, false, false, false, false, false, false, false, false, false, false, false, false, false, false, false, false, false, false, false] (Act.put (Act.put A0 (some 45) (.slice (some ⟨g5, 0, none⟩) 1 1)) (some 54) (.slice (some ⟨g14, 0, none⟩) 2 2)) wS := by
    intro wS hGS g5 g14 hB5 hB14
    subst hl hQ
    rw [hA]
    clear hA
    simp only [Act.put, List.setIfInBounds_toArray, List.set_cons_zero, List.set_cons_succ]
    refine wpR_one (i := 6) (by kernel_rfl) ?_
    refine wpR_op (i := 6) rfl (by rfl) (fun K hK => ?_)
    go_simp
    refine (sum_v _ 1 cs T [bs.take i] wS S1 HT.out rfl (HFI.out _ (by rw [← LI.out]; omega) (HB.out.take i)) hB5 HV1.out).mono ?_
    rintro e wM ⟨rfl, hM⟩
    refine hK.out _ _ hM ?_
    clear hK K
    try simp only [Act.put, List.setIfInBounds_toArray, List.set_cons_zero, List.set_cons_succ]
    refine wpR_to #[true, true, true, true, true, true, true, true, true, true, true, true, true, true, true, false, true, false, false, false, false, false, false, false, false, false, false, false, false, false, false, false, false, false, false, false, false, false, false, false, false] (by kernel_rfl) ?_
    exact S5_6_14.out wM (hGS.trans hM) g5 g14 (hB14.grow hM)
  simp only [hA, Act.put, List.setIfInBounds_toArray, List.set_cons_zero, List.set_cons_succ] at s5_14
  have S5_14 := Lib.hid s5_14
  clear s5_14
  have s5 : ∀ wS : World, Grow W0 wS → ∀ g5 : Nat, Prts wS wS.heap.size (some ⟨g5, 0, none⟩) [bs.take i] → wpR Grow Try.prog .any l'.toArray Q' 27 #[true, true, true, true, true, true, false, true, true, true, true, true, true, true, false, false, true, false, false, false, false, false, false, false, false, false, false, false, false, false, false, false, false, false, false, false, false, false, false, false, false] (Act.put A0 (some 45) (.slice (some ⟨g5, 0, none⟩) 1 1)) wS := by
    intro wS hGS g5 hB5
    subst hl hQ
    rw [hA]
    clear hA
    simp only [Act.put, List.setIfInBounds_toArray, List.set_cons_zero, List.set_cons_succ]
    refine wpR_two (i := 6) (j := 14) (by kernel_rfl) ?_ ?_
    · refine wpR_op (i := 6) rfl (by rfl) (fun K hK => ?_)
      go_simp
      refine (sum_v _ 1 cs T [bs.take i] wS S1 HT.out rfl (HFI.out _ (by rw [← LI.out]; omega) (HB.out.take i)) hB5 HV1.out).mono ?_
      rintro e wM ⟨rfl, hM⟩
      refine hK.out _ _ hM ?_
      clear hK K
      try simp only [Act.put, List.setIfInBounds_toArray, List.set_cons_zero, List.set_cons_succ]
      refine wpR_to #[true, true, true, true, true, true, true, true, true, true, true, true, true, true, false, false, true, false, false, false, false, false, false, false, false, false, false, false, false, false, false, false, false, false, false, false, false, false, false, false, false] (by kernel_rfl) ?_
      exact S5_6.out wM (hGS.trans hM) g5 
    · refine wpR_op (i := 14) rfl (by rfl) (fun K hK => ?_)
      go_simp
      refine hK.out _ _ (grow_new _ _) ?_
      clear hK K
      try simp only [Act.put, List.setIfInBounds_toArray, List.set_cons_zero, List.set_cons_succ]
      generalize hwM : World.alloc wS (Obj.cells _ 28) = wM
      have hM : Grow wS wM := by rw [← hwM]; exact grow_new _ _
      have hN : Prts wM wM.heap.size (some ⟨wS.heap.size, 0, none⟩) [(bs.take k).drop i, bs.drop k] := by
        rw [← hwM]
        exact prts_lit wS [(AI, k - i, cap - i, (bs.take k).drop i), (AK, n - k, cap - k, bs.drop k)] (by
        intro x hx
        simp only [List.mem_cons, List.not_mem_nil, or_false] at hx
        rcases hx with rfl | rfl
        · exact ⟨LIK.out, HNI.out, XI.out _ (hw0.trans hGS)⟩
        · exact ⟨LD.out, HNK.out, XK.out _ (hw0.trans hGS)⟩)
      refine wpR_to #[true, true, true, true, true, true, false, true, true, true, true, true, true, true, true, false, true, false, false, false, false, false, false, false, false, false, false, false, false, false, false, false, false, false, false, false, false, false, false, false, false] (by kernel_rfl) ?_
      exact S5_14.out wM (hGS.trans hM) g5 wS.heap.size (hB5.grow hM) hN
  simp only [hA, Act.put, List.setIfInBounds_toArray, List.set_cons_zero, List.set_cons_succ] at s5
  have S5 := Lib.hid s5
  clear s5
  have s14 : ∀ wS : World, Grow W0 wS → ∀ g14 : Nat, Prts wS wS.heap.size (some ⟨g14, 0, none⟩) [(bs.take k).drop i, bs.drop k] → wpR Grow Try.prog .any l'.toArray Q' 27 #[true, true, true, true, true, false, false, true, true, true, true, true, true, true, true, false, true, false, false, false, false, false, false, false, false, false, false, false, false, false, false, false, false, false, false, false, false, false, false, false, false] (Act.put A0 (some 54) (.slice (some ⟨g14, 0, none⟩) 2 2)) wS := by
    intro wS hGS g14 hB14
    subst hl hQ
    rw [hA]
    clear hA
    simp only [Act.put, List.setIfInBounds_toArray, List.set_cons_zero, List.set_cons_succ]
    refine wpR_one (i := 5) (by kernel_rfl) ?_
    refine wpR_op (i := 5) rfl (by rfl) (fun K hK => ?_)
    go_simp
    refine hK.out _ _ (grow_new _ _) ?_
    clear hK K
    try simp only [Act.put, List.setIfInBounds_toArray, List.set_cons_zero, List.set_cons_succ]
    generalize hwM : World.alloc wS (Obj.cells _ 28) = wM
    have hM : Grow wS wM := by rw [← hwM]; exact grow_new _ _
    have hN : Prts wM wM.heap.size (some ⟨wS.heap.size, 0, none⟩) [bs.take i] := by
      rw [← hwM]
      exact prts_lit1 wS A i cap (bs.take i) LI.out HC.out ((HR.out.grow (hw0.trans hGS)).take i)
    refine wpR_to #[true, true, true, true, true, true, false, true, true, true, true, true, true, true, true, false, true, false, false, false, false, false, false, false, false, false, false, false, false, false, false, false, false, false, false, false, false, false, false, false, false] (by kernel_rfl) ?_
    exact S5_14.out wM (hGS.trans hM) wS.heap.size g14 hN (hB14.grow hM)
  simp only [hA, Act.put, List.setIfInBounds_toArray, List.set_cons_zero, List.set_cons_succ] at s14
  have S14 := Lib.hid s14
  clear s14
  have s0 : ∀ wS : World, Grow W0 wS → wpR Grow Try.prog .any l'.toArray Q' 28 #[true, true, true, true, true, false, false, true, true, true, true, true, true, true, false, false, true, false, false, false, false, false, false, false, false, false, false, false, false, false, false, false, false, false, false, false, false, false, false, false, false] A0 wS := by
    intro wS hGS  
    subst hl hQ
    rw [hA]
    clear hA
    refine wpR_two (i := 5) (j := 14) (by kernel_rfl) ?_ ?_
    · refine wpR_op (i := 5) rfl (by rfl) (fun K hK => ?_)
      go_simp
      refine hK.out _ _ (grow_new _ _) ?_
      clear hK K
      try simp only [Act.put, List.setIfInBounds_toArray, List.set_cons_zero, List.set_cons_succ]
      generalize hwM : World.alloc wS (Obj.cells _ 28) = wM
      have hM : Grow wS wM := by rw [← hwM]; exact grow_new _ _
      have hN : Prts wM wM.heap.size (some ⟨wS.heap.size, 0, none⟩) [bs.take i] := by
        rw [← hwM]
        exact prts_lit1 wS A i cap (bs.take i) LI.out HC.out ((HR.out.grow (hw0.trans hGS)).take i)
      refine wpR_to #[true, true, true, true, true, true, false, true, true, true, true, true, true, true, false, false, true, false, false, false, false, false, false, false, false, false, false, false, false, false, false, false, false, false, false, false, false, false, false, false, false] (by kernel_rfl) ?_
      exact S5.out wM (hGS.trans hM) wS.heap.size hN
    · refine wpR_op (i := 14) rfl (by rfl) (fun K hK => ?_)
      go_simp
      refine hK.out _ _ (grow_new _ _) ?_
      clear hK K
      try simp only [Act.put, List.setIfInBounds_toArray, List.set_cons_zero, List.set_cons_succ]
      generalize hwM : World.alloc wS (Obj.cells _ 28) = wM
      have hM : Grow wS wM := by rw [← hwM]; exact grow_new _ _
      have hN : Prts wM wM.heap.size (some ⟨wS.heap.size, 0, none⟩) [(bs.take k).drop i, bs.drop k] := by
        rw [← hwM]
        exact prts_lit wS [(AI, k - i, cap - i, (bs.take k).drop i), (AK, n - k, cap - k, bs.drop k)] (by
        intro x hx
        simp only [List.mem_cons, List.not_mem_nil, or_false] at hx
        rcases hx with rfl | rfl
        · exact ⟨LIK.out, HNI.out, XI.out _ (hw0.trans hGS)⟩
        · exact ⟨LD.out, HNK.out, XK.out _ (hw0.trans hGS)⟩)
      refine wpR_to #[true, true, true, true, true, false, false, true, true, true, true, true, true, true, true, false, true, false, false, false, false, false, false, false, false, false, false, false, false, false, false, false, false, false, false, false, false, false, false, false, false] (by kernel_rfl) ?_
      exact S14.out wM (hGS.trans hM) wS.heap.size hN
  refine wpR_to #[true, true, true, true, true, false, false, true, true, true, true, true, true, true, false, false, true, false, false, false, false, false, false, false, false, false, false, false, false, false, false, false, false, false, false, false, false, false, false, false, false] (by kernel_rfl) ?_
  exact s0 W0 (Grow.refl W0)
end Go.Proofs.Ytbpdjohbbhblcaa
