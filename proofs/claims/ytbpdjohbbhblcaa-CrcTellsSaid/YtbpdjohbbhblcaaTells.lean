/-
  The law CrcTells, walked where it tells all: it answers true, and turns nothing that was there.
-/
import Derived.Test.YtbpdjohbbhblcaaROpen
namespace Go.Proofs.Ytbpdjohbbhblcaa
open Go.RowKit
set_option linter.unusedSimpArgs false

theorem got_no {w w' : World} {e : Ending} (h : OpenNo w e w') : Got [] false w e w' := ⟨none, 0, h.1, Nums.none_, h.2⟩
theorem got_yes {p : List Int} {w w' : World} {e : Ending} (h : OpenYes p w e w') : Got p true w e w' := by
  obtain ⟨g, he, hrow, hg⟩ := h
  exact ⟨some ⟨g, 0, none⟩, p.length, he, Nums.of_row hrow, hg⟩

/-- the program's Open and the document's open alike -/
theorem both_open (A : Option Addr) (cap n : Nat) (cs : Array Value) (T : Nat → Nat) (bs : List Int) (w : World) (hT : IsTab cs T) (hn : bs.length = n) (hl : n ≤ 500) (hcap : n ≤ cap) (hb : Byt bs) (hr : Nums .u8 w w.heap.size A bs) :
    ∃ X ok, X.length ≤ 500 ∧ ∀ w', Grow w w' → Calls Try.prog 13 #[.agg cs, .slice A n cap] w' (Got X ok w') ∧ Calls Try.prog 14 #[.agg cs, .slice A n cap] w' (Got X ok w') := by
  by_cases h4 : n < 4
  · exact ⟨[], false, by simp, fun w' _ => ⟨(open_short A n cap cs w' h4).mono fun _ _ h => got_no h, ropen_short A n cap cs w' h4⟩⟩
  · obtain ⟨m, hm⟩ : ∃ m, n = m + 4 := ⟨n - 4, by omega⟩
    obtain ⟨b, off, rfl, _, _⟩ := hr (by omega)
    have hlt : (bs.take m).length ≤ 500 := by rw [List.length_take]; omega
    by_cases he : moreN T 0 (bs.take m) = le (bs.drop m)
    · refine ⟨bs.take m, true, hlt, fun w' hg => ⟨?_, ropen_yes b off m n cap cs T bs w' hT hn hm (by omega) hcap hb (hr.grow hg) he⟩⟩
      have h := open_yes (some ⟨b, off, none⟩) m cap cs T bs w' hT (by rw [hn, hm]) (by omega) (by omega) hb (hr.grow hg) he
      rw [← hm] at h
      exact h.mono fun _ _ h => got_yes h
    · refine ⟨[], false, by simp, fun w' hg => ⟨?_, ropen_no b off m n cap cs T bs w' hT hn hm (by omega) hcap hb (hr.grow hg) he⟩⟩
      have h := open_no (some ⟨b, off, none⟩) m cap cs T bs w' hT (by rw [hn, hm]) (by omega) (by omega) hb (hr.grow hg) he
      rw [← hm] at h
      exact h.mono fun _ _ h => got_no h

theorem sum_c (A : Option Addr) (L cap : Nat) (cs : Array Value) (T : Nat → Nat) (ps : List (List Int)) (w : World) (M : Nat) (hT : IsTab cs T) (hL : ps.length = L) (hf : Fits ps) (h : Prts w w.heap.size A ps) (hv : moreN T 0 (flat ps) = M) :
    Calls Try.prog 16 #[.agg cs, .slice A L cap] w fun e w' => e = .returned (.int .u32 (M : Nat)) ∧ Grow w w' := by
  subst hL hv
  exact sum_any A cap cs T ps w hT hf h
theorem more_c (A : Option Addr) (L cap : Nat) (cs : Array Value) (T : Nat → Nat) (s : Nat) (ps : List (List Int)) (w : World) (M : Nat) (hT : IsTab cs T) (hs : s < 4294967296) (hL : ps.length = L) (hf : Fits ps) (h : Prts w w.heap.size A ps) (hv : moreN T s (flat ps) = M) :
    Calls Try.prog 18 #[.agg cs, .int .u32 s, .slice A L cap] w fun e w' => e = .returned (.int .u32 (M : Nat)) ∧ Grow w w' := by
  subst hL hv
  exact more_any A cap cs T s ps w hT hs hf h
theorem rsum_c (A : Option Addr) (n cap : Nat) (cs : Array Value) (T : Nat → Nat) (p : List Int) (w : World) (M : Nat) (hT : IsTab cs T) (hn : p.length = n) (hl : n ≤ 100000) (hb : Byt p) (h : Nums .u8 w w.heap.size A p) (hv : moreN T 0 p = M) :
    Calls Try.prog 17 #[.agg cs, .slice A n cap] w fun e w' => e = .returned (.int .u32 (M : Nat)) ∧ Grow w w' := by
  subst hn hv
  exact rsum_any A cap cs T p w hT (by omega) hb h
theorem rmore_c (A : Option Addr) (n cap : Nat) (cs : Array Value) (T : Nat → Nat) (s : Nat) (p : List Int) (w : World) (M : Nat) (hT : IsTab cs T) (hs : s < 4294967296) (hn : p.length = n) (hl : n ≤ 100000) (hb : Byt p) (h : Nums .u8 w w.heap.size A p) (hv : moreN T s p = M) :
    Calls Try.prog 19 #[.agg cs, .int .u32 s, .slice A n cap] w fun e w' => e = .returned (.int .u32 (M : Nat)) ∧ Grow w w' := by
  subst hn hv
  exact rmore_any A cap cs T s p w hT hs (by omega) hb h
theorem join_c (A : Option Addr) (L cap La : Nat) (ps : List (List Int)) (al : List Int) (w : World) (hL : ps.length = L) (hf : Fits ps) (ht : La ≤ 100000) (hal : flat ps = al) (hla : al.length = La) (h : Prts w w.heap.size A ps) :
    Calls Try.prog 12 #[.slice A L cap] w fun e w' => ∃ A' c', e = .returned (.slice A' La c') ∧ (A' = none → c' = 0) ∧ Nums .u8 w' w'.heap.size A' al ∧ Grow w w' := by
  subst hL hal hla
  exact join_any A cap ps w hf ht h
theorem seal_c (A : Option Addr) (L cap N : Nat) (cs : Array Value) (T : Nat → Nat) (ps : List (List Int)) (al : List Int) (w : World) (hT : IsTab cs T) (hL : ps.length = L) (hf : Fits ps) (h : Prts w w.heap.size A ps) (hal : flat ps = al) (hN : N = al.length + 4) (hl : al.length ≤ 100000) :
    Calls Try.prog 15 #[.agg cs, .slice A L cap] w (SealedN N (sealN T al) w) := by
  subst hL hal
  refine (seal_any A cap cs T ps w hT hf (by omega) h).mono ?_
  rintro e w' ⟨g, rfl, hrow, hg⟩
  have hl' : (sealN T (flat ps)).length = N := by rw [sealN_len, hN]
  rw [hl'] at hrow ⊢
  exact ⟨g, rfl, hrow, hg⟩

theorem flat_byt {ps : List (List Int)} (h : ∀ i, Byt (ps.getD i [])) : Byt (flat ps) := by
  intro c hc
  unfold flat at hc
  rw [List.mem_flatten] at hc
  obtain ⟨p, hp, hcp⟩ := hc
  obtain ⟨i, hi, rfl⟩ := List.mem_iff_getElem.1 hp
  have := h i
  rw [List.getD_eq_getElem?_getD, List.getElem?_eq_getElem hi] at this
  exact this c hcp
theorem flat_short (ps : List (List Int)) (h : ∀ i, i < ps.length → (ps.getD i []).length ≤ 500) : ∀ k, k ≤ ps.length → (flat (ps.take k)).length ≤ 500 * k := by
  intro k
  induction k with
  | zero => intro _; simp [flat_none]
  | succ k ih =>
    intro hk
    rw [take_flat ps k (by omega), List.length_append]
    have := ih (by omega)
    have := h k (by omega)
    omega

set_option maxRecDepth 10000 in
set_option maxHeartbeats 8000000 in
theorem tells_yes (A1 A2 : Option Addr) (c1 c2 L n La N : Nat) (cs : Array Value) (T : Nat → Nat) (ps : List (List Int)) (al bs : List Int) (f : Nat) (w : World) (hT : IsTab cs T) (hL : ps.length = L) (hL10 : L ≤ 10) (hn : bs.length = n) (hl : n ≤ 500) (hcap : n ≤ c2)
    (hshort : ∀ i, i < ps.length → (ps.getD i []).length ≤ 500) (hpb : ∀ i, Byt (ps.getD i [])) (hal : flat ps = al) (hla : al.length = La) (hN : N = La + 4) (hf : f < 4294967296) (hb : Byt bs) (hr : Nums .u8 w w.heap.size A2 bs) (hp : Prts w w.heap.size A1 ps) :
    Calls Try.prog 4 #[.agg cs, .slice A1 L c1, .slice A2 n c2, .int .u32 f] w (Fine w) := by
  have hLa : La ≤ 5000 := by
    have := flat_short ps hshort ps.length (Nat.le_refl _)
    rw [List.take_length, hal, hla, hL] at this
    omega
  have hfit : Fits ps := by
    refine ⟨by omega, fun i => ⟨?_, hpb i⟩⟩
    by_cases hi : i < ps.length
    · have := hshort i hi
      omega
    · rw [List.getD_eq_getElem?_getD, List.getElem?_eq_none (by omega)]
      simp
  have e1 : decide ((10 : Int) < (L : Int)) = false := by simp; omega
  have e2 : decide ((500 : Int) < (n : Int)) = false := by simp; omega
  have e3 : ((La : Int) == (La : Int)) = true := by simp
  have hs := hT.1
  have HT := Lib.hid hT
  have HL := Lib.hid hL
  have HN := Lib.hid hn
  have HFT := Lib.hid hfit
  have HSH := Lib.hid hshort
  have HAL := Lib.hid hal
  have HLA := Lib.hid hla
  have HNN := Lib.hid hN
  have HAB := Lib.hid (show Byt al by rw [← hal]; exact flat_byt hpb)
  have HB := Lib.hid hb
  have HR := Lib.hid hr
  have HP := Lib.hid hp
  obtain ⟨M, hM⟩ : ∃ M, moreN T 0 al = M := ⟨_, rfl⟩
  obtain ⟨MF, hMF⟩ : ∃ M, moreN T f al = M := ⟨_, rfl⟩
  have HM := Lib.hid hM
  have HMP := Lib.hid (show moreN T 0 (flat ps) = M by rw [hal]; exact hM)
  have HMF := Lib.hid hMF
  have HMFP := Lib.hid (show moreN T f (flat ps) = MF by rw [hal]; exact hMF)
  obtain ⟨X, ok, hX, hboth⟩ := both_open A2 c2 n cs T bs w hT hn hl hcap hb hr
  have HBO := Lib.hid hboth
  obtain ⟨lx, hlx⟩ : ∃ l, X.length = l := ⟨_, rfl⟩
  have HLX := Lib.hid hlx
  have e4 : ((M : Int) == (M : Int)) = true := by simp
  have e5 : ((MF : Int) == (MF : Int)) = true := by simp
  have e6 : (ok == ok) = true := by cases ok <;> rfl
  clear hT hL hn hfit hshort hal hla hN hb hr hp hM hMF hboth hpb hX hlx
  have hb0 : Grow w (w.alloc (.cells cs 24)) := grow_new _ _
  have hg0 := heap_alloc_new w (.cells cs 24)
  have hlt0 : w.heap.size < (w.alloc (.cells cs 24)).heap.size := by simp
  go_enter Try.func4, Try.ntmps4
  go_wp2_with fail
  generalize w.alloc (.cells cs 24) = w0 at *
  refine (small_any w0).mono ?_
  rintro e w1 ⟨rfl, hb1⟩
  have hg1 := Lib.hid ((hb1.block w.heap.size hlt0).trans hg0)
  have hlt1 : w.heap.size < w1.heap.size := Nat.lt_of_lt_of_le hlt0 hb1.size
  have hw1 : Grow w w1 := hb0.trans hb1
  have HP1 := Lib.hid (HP.out.grow hw1)
  clear hg0 hb0 hlt0 hb1
  go_wp2
  go_loopw [10, 11] (fun v i wr => ∃ j : Nat, j ≤ L ∧ i = .int .i64 j ∧ v = .int .i64 ((flat (ps.take j)).length : Nat) ∧ wr = w1)
    (fun _ i _ => L - (intOf i).toNat)
  case atStart => exact ⟨0, Nat.zero_le _, rfl, by simp [flat_none], rfl⟩
  case round =>
    obtain ⟨j, hj, rfl, rfl, rfl⟩ := hrel
    by_cases hlt : j < L
    · have t1 : decide ((j : Int) < (L : Int)) = true := by simp; omega
      have t2 : decide ((j : Int) < 10) = true := by simp; omega
      obtain ⟨b, off, rfl, hb, hc⟩ := HP1.out (by rw [HL.out]; omega)
      obtain ⟨Ai, ci, hcell, _, _⟩ := hc j (by rw [HL.out]; exact hlt)
      have hnext : (flat (ps.take (j + 1))).length = (flat (ps.take j)).length + (ps.getD j []).length := by rw [take_flat ps j (by rw [HL.out]; exact hlt), List.length_append]
      have h500 := HSH.out j (by rw [HL.out]; exact hlt)
      have hsm := flat_short ps HSH.out j (by rw [HL.out]; exact hj)
      have HX := Lib.hid hnext
      clear hc hnext
      generalize (flat (ps.take j)).length = q at *
      generalize (ps.getD j []).length = pl at *
      have t3 : decide ((500 : Int) < (pl : Int)) = false := by simp; omega
      go_wp2
      go_roundw
      case rel => exact ⟨j + 1, by omega, by go_num, by rw [HX.out]; simp, trivial⟩
      case measure => simp [intOf]; omega
    · have e : L = j := by omega
      subst e
      have t1 : decide ((L : Int) < (L : Int)) = false := by simp
      have hta : (flat (ps.take L)).length = La := by rw [← HL.out, List.take_length, HAL.out, HLA.out]
      rw [hta]
      clear hta hlt hj
      go_wp2_with fail
      refine (join_c A1 L c1 La ps al wr HL.out HFT.out (by omega) HAL.out HLA.out HP1.out).mono ?_
      rintro e w2 ⟨Aa, ca, rfl, ea, hna, hb2⟩
      have HNA := Lib.hid hna
      have HEA := Lib.hid ea
      have hg2 := (hb2.block w.heap.size hlt1).trans hg1.out
      have hlt2 : w.heap.size < w2.heap.size := Nat.lt_of_lt_of_le hlt1 hb2.size
      have hw2 : Grow w w2 := hw1.trans hb2
      clear hna ea
      go_wp2_with (refine wpList_tab rfl _ rfl w.heap.size rfl cs hg2 hs ?_)
      refine ((HBO.out w2 hw2).1).mono ?_
      rintro e w3 ⟨Ax, cx, rfl, hnx, hb3⟩
      rw [HLX.out]
      have HNX := Lib.hid hnx
      have hg3 := (hb3.block w.heap.size hlt2).trans hg2
      have hlt3 : w.heap.size < w3.heap.size := Nat.lt_of_lt_of_le hlt2 hb3.size
      have hw3 : Grow w w3 := hw2.trans hb3
      clear hnx hg2
      go_wp2_with (refine wpList_tab rfl _ rfl w.heap.size rfl cs hg3 hs ?_)
      refine ((HBO.out w3 hw3).2).mono ?_
      rintro e w4 ⟨Ay, cy, rfl, hny, hb4⟩
      rw [HLX.out]
      have HNY := Lib.hid hny
      have hg4 := (hb4.block w.heap.size hlt3).trans hg3
      have hlt4 : w.heap.size < w4.heap.size := Nat.lt_of_lt_of_le hlt3 hb4.size
      have hw4 : Grow w w4 := hw3.trans hb4
      clear hny hg3
      go_wp2_with (refine wpList_tab rfl _ rfl w.heap.size rfl cs hg4 hs ?_)
      refine (seal_c A1 L c1 N cs T ps al w4 HT.out HL.out HFT.out (HP.out.grow hw4) HAL.out (by rw [HLA.out]; exact HNN.out) (by rw [HLA.out]; omega)).mono ?_
      rintro e w5 ⟨gs, rfl, hrow5, hb5⟩
      have HR5 := Lib.hid hrow5
      have hg5 := (hb5.block w.heap.size hlt4).trans hg4
      have hlt5 : w.heap.size < w5.heap.size := Nat.lt_of_lt_of_le hlt4 hb5.size
      have hw5 : Grow w w5 := hw4.trans hb5
      clear hrow5 hg4
      go_wp2_with (refine wpList_tab rfl _ rfl w.heap.size rfl cs hg5 hs ?_)
      refine (open_sealed gs La N cs T al w5 HT.out HLA.out HNN.out (by omega) HAB.out HR5.out).mono ?_
      rintro e w6 ⟨gz, rfl, hrow6, hb6⟩
      have HR6 := Lib.hid hrow6
      have HG6 := Lib.hid ((hb6.block w.heap.size hlt5).trans hg5)
      have hlt6 : w.heap.size < w6.heap.size := Nat.lt_of_lt_of_le hlt5 hb6.size
      have hw6 : Grow w w6 := hw5.trans hb6
      have g26 : Grow w2 w6 := ((hb3.trans hb4).trans hb5).trans hb6
      have g36 : Grow w3 w6 := (hb4.trans hb5).trans hb6
      have g46 : Grow w4 w6 := hb5.trans hb6
      obtain ⟨sS, hsS⟩ : ∃ s, strOfNums (sealN T al) = s := ⟨_, rfl⟩
      obtain ⟨sX, hsX⟩ : ∃ s, strOfNums X = s := ⟨_, rfl⟩
      obtain ⟨sA, hsA⟩ : ∃ s, strOfNums al = s := ⟨_, rfl⟩
      have HSS := Lib.hid hsS
      have HSX := Lib.hid hsX
      have HSA := Lib.hid hsA
      clear hrow6 hg5 hsS hsX hsA t1
      go_wp2
      refine wp_region_R Grow (n := 59) rfl (by kernel_rfl) ?_
      intro W0 hW0e hW0
      have htb : ∀ wg, Grow W0 wg → wg.heap[w.heap.size]? = some (.cells cs 24 (0, 0)) := fun wg hg => ((hW0.trans hg).block w.heap.size hlt6).trans HG6.out
      have hw0 : Grow w W0 := hw6.trans hW0
      clear hW0e
      refine wpR_take growOrd (i := 0) (v := ?vf1) rfl (by kernel_rfl) (by kernel_rfl) (by kernel_rfl) (fun _ _ _ h => h) (by rfl) ?hf1 ?rf1
      case hf1 => (intro wg hSw; go_simp <;> with_reducible rfl)
      simp only [Act.put, List.setIfInBounds_toArray, List.set_cons_zero, List.set_cons_succ]
      refine wpR_take growOrd (i := 1) (v := ?vf2) rfl (by kernel_rfl) (by kernel_rfl) (by kernel_rfl) (fun _ _ _ h => h) (by rfl) ?hf2 ?rf2
      case hf2 => (intro wg hSw; go_simp <;> with_reducible rfl)
      simp only [Act.put, List.setIfInBounds_toArray, List.set_cons_zero, List.set_cons_succ]
      refine wpR_take growOrd (i := 2) (v := ?vf3) rfl (by kernel_rfl) (by kernel_rfl) (by kernel_rfl) (fun _ _ _ h => h) (by rfl) ?hf3 ?rf3
      case hf3 => (intro wg hSw; go_simp <;> with_reducible rfl)
      simp only [Act.put, List.setIfInBounds_toArray, List.set_cons_zero, List.set_cons_succ]
      refine wpR_take growOrd (i := 3) (v := ?vf4) rfl (by kernel_rfl) (by kernel_rfl) (by kernel_rfl) (fun _ _ _ h => h) (by rfl) ?hf4 ?rf4
      case hf4 => (intro wg hSw; go_simp <;> with_reducible rfl)
      simp only [Act.put, List.setIfInBounds_toArray, List.set_cons_zero, List.set_cons_succ]
      refine wpR_take growOrd (i := 4) (v := ?vf5) rfl (by kernel_rfl) (by kernel_rfl) (by kernel_rfl) (fun _ _ _ h => h) (by rfl) ?hf5 ?rf5
      case hf5 => (intro wg hSw; go_simp <;> with_reducible rfl)
      simp only [Act.put, List.setIfInBounds_toArray, List.set_cons_zero, List.set_cons_succ]
      refine wpR_take growOrd (i := 5) (v := ?vf6) rfl (by kernel_rfl) (by kernel_rfl) (by kernel_rfl) (fun _ _ _ h => h) (by rfl) ?hf6 ?rf6
      case hf6 => (intro wg hSw; go_simp <;> with_reducible rfl)
      simp only [Act.put, List.setIfInBounds_toArray, List.set_cons_zero, List.set_cons_succ]
      refine wpR_take growOrd (i := 6) (v := ?vf7) rfl (by kernel_rfl) (by kernel_rfl) (by kernel_rfl) (fun _ _ _ h => h) (by rfl) ?hf7 ?rf7
      case hf7 => (intro wg hSw; go_simp <;> with_reducible rfl)
      simp only [Act.put, List.setIfInBounds_toArray, List.set_cons_zero, List.set_cons_succ]
      refine wpR_take growOrd (i := 7) (v := ?vf8) rfl (by kernel_rfl) (by kernel_rfl) (by kernel_rfl) (fun _ _ _ h => h) (by rfl) ?hf8 ?rf8
      case hf8 => (intro wg hSw; go_simp <;> with_reducible rfl)
      simp only [Act.put, List.setIfInBounds_toArray, List.set_cons_zero, List.set_cons_succ]
      refine wpR_take growOrd (i := 8) (v := Value.agg cs) rfl (by kernel_rfl) (by kernel_rfl) (by kernel_rfl) (fun _ _ _ h => h) (by rfl) ?hf9 ?rf9
      case hf9 => exact fun wg hSw => exec_tab rfl rfl (htb wg (Grow.trans (Grow.refl W0) hSw)) hs
      simp only [Act.put, List.setIfInBounds_toArray, List.set_cons_zero, List.set_cons_succ]
      refine wpR_take growOrd (i := 9) (v := ?vf10) rfl (by kernel_rfl) (by kernel_rfl) (by kernel_rfl) (fun _ _ _ h => h) (by rfl) ?hf10 ?rf10
      case hf10 => (intro wg hSw; go_simp <;> with_reducible rfl)
      simp only [Act.put, List.setIfInBounds_toArray, List.set_cons_zero, List.set_cons_succ]
      refine wpR_take growOrd (i := 11) (v := Value.agg cs) rfl (by kernel_rfl) (by kernel_rfl) (by kernel_rfl) (fun _ _ _ h => h) (by rfl) ?hf11 ?rf11
      case hf11 => exact fun wg hSw => exec_tab rfl rfl (htb wg (Grow.trans (Grow.refl W0) hSw)) hs
      simp only [Act.put, List.setIfInBounds_toArray, List.set_cons_zero, List.set_cons_succ]
      refine wpR_take growOrd (i := 12) (v := ?vf12) rfl (by kernel_rfl) (by kernel_rfl) (by kernel_rfl) (fun _ _ _ h => h) (by rfl) ?hf12 ?rf12
      case hf12 => (intro wg hSw; go_simp <;> with_reducible rfl)
      simp only [Act.put, List.setIfInBounds_toArray, List.set_cons_zero, List.set_cons_succ]
      refine wpR_one (i := 10) (by kernel_rfl) ?_
      refine wpR_op (i := 10) rfl (by rfl) (fun K hK => ?_)
      go_simp
      refine (sum_c A1 L c1 cs T ps W0 M HT.out HL.out HFT.out (HP.out.grow (hw0.trans (Grow.refl W0))) HMP.out).mono ?_
      rintro e wM10 ⟨rfl, hM10⟩
      refine hK.out _ _ hM10 ?_
      clear hK K
      try simp only [Act.put, List.setIfInBounds_toArray, List.set_cons_zero, List.set_cons_succ]
      refine wpR_one (i := 13) (by kernel_rfl) ?_
      refine wpR_op (i := 13) rfl (by rfl) (fun K hK => ?_)
      go_simp
      refine (rsum_c Aa La ca cs T al wM10 M HT.out HLA.out (by omega) HAB.out (HNA.out.grow ((g26.trans hW0).trans (Grow.trans (Grow.refl W0) hM10))) HM.out).mono ?_
      rintro e wM13 ⟨rfl, hM13⟩
      refine hK.out _ _ hM13 ?_
      clear hK K
      try simp only [Act.put, List.setIfInBounds_toArray, List.set_cons_zero, List.set_cons_succ]
      refine wpR_take growOrd (i := 14) (v := ?vf13) rfl (by kernel_rfl) (by kernel_rfl) (by kernel_rfl) (fun _ _ _ h => h) (by rfl) ?hf13 ?rf13
      case hf13 => (intro wg hSw; go_simp <;> with_reducible rfl)
      simp only [Act.put, List.setIfInBounds_toArray, List.set_cons_zero, List.set_cons_succ]
      refine wpR_take growOrd (i := 15) (v := ?vf14) rfl (by kernel_rfl) (by kernel_rfl) (by kernel_rfl) (fun _ _ _ h => h) (by rfl) ?hf14 ?rf14
      case hf14 => (intro wg hSw; go_simp <;> with_reducible rfl)
      simp only [Act.put, List.setIfInBounds_toArray, List.set_cons_zero, List.set_cons_succ]
      refine wpR_take growOrd (i := 16) (v := ?vf15) rfl (by kernel_rfl) (by kernel_rfl) (by kernel_rfl) (fun _ _ _ h => h) (by rfl) ?hf15 ?rf15
      case hf15 => (intro wg hSw; go_simp <;> with_reducible rfl)
      simp only [Act.put, List.setIfInBounds_toArray, List.set_cons_zero, List.set_cons_succ]
      refine wpR_take growOrd (i := 17) (v := Value.agg cs) rfl (by kernel_rfl) (by kernel_rfl) (by kernel_rfl) (fun _ _ _ h => h) (by rfl) ?hf16 ?rf16
      case hf16 => exact fun wg hSw => exec_tab rfl rfl (htb wg (Grow.trans (Grow.trans (Grow.trans (Grow.refl W0) hM10) hM13) hSw)) hs
      simp only [Act.put, List.setIfInBounds_toArray, List.set_cons_zero, List.set_cons_succ]
      refine wpR_take growOrd (i := 18) (v := ?vf17) rfl (by kernel_rfl) (by kernel_rfl) (by kernel_rfl) (fun _ _ _ h => h) (by rfl) ?hf17 ?rf17
      case hf17 => (intro wg hSw; go_simp <;> with_reducible rfl)
      simp only [Act.put, List.setIfInBounds_toArray, List.set_cons_zero, List.set_cons_succ]
      refine wpR_take growOrd (i := 19) (v := ?vf18) rfl (by kernel_rfl) (by kernel_rfl) (by kernel_rfl) (fun _ _ _ h => h) (by rfl) ?hf18 ?rf18
      case hf18 => (intro wg hSw; go_simp <;> with_reducible rfl)
      simp only [Act.put, List.setIfInBounds_toArray, List.set_cons_zero, List.set_cons_succ]
      refine wpR_take growOrd (i := 21) (v := Value.agg cs) rfl (by kernel_rfl) (by kernel_rfl) (by kernel_rfl) (fun _ _ _ h => h) (by rfl) ?hf19 ?rf19
      case hf19 => exact fun wg hSw => exec_tab rfl rfl (htb wg (Grow.trans (Grow.trans (Grow.trans (Grow.refl W0) hM10) hM13) hSw)) hs
      simp only [Act.put, List.setIfInBounds_toArray, List.set_cons_zero, List.set_cons_succ]
      refine wpR_take growOrd (i := 22) (v := ?vf20) rfl (by kernel_rfl) (by kernel_rfl) (by kernel_rfl) (fun _ _ _ h => h) (by rfl) ?hf20 ?rf20
      case hf20 => (intro wg hSw; go_simp <;> with_reducible rfl)
      simp only [Act.put, List.setIfInBounds_toArray, List.set_cons_zero, List.set_cons_succ]
      refine wpR_take growOrd (i := 23) (v := ?vf21) rfl (by kernel_rfl) (by kernel_rfl) (by kernel_rfl) (fun _ _ _ h => h) (by rfl) ?hf21 ?rf21
      case hf21 => (intro wg hSw; go_simp <;> with_reducible rfl)
      simp only [Act.put, List.setIfInBounds_toArray, List.set_cons_zero, List.set_cons_succ]
      refine wpR_one (i := 20) (by kernel_rfl) ?_
      refine wpR_op (i := 20) rfl (by rfl) (fun K hK => ?_)
      go_simp
      refine (more_c A1 L c1 cs T f ps wM13 MF HT.out hf HL.out HFT.out (HP.out.grow (hw0.trans (Grow.trans (Grow.trans (Grow.refl W0) hM10) hM13))) HMFP.out).mono ?_
      rintro e wM20 ⟨rfl, hM20⟩
      refine hK.out _ _ hM20 ?_
      clear hK K
      try simp only [Act.put, List.setIfInBounds_toArray, List.set_cons_zero, List.set_cons_succ]
      refine wpR_one (i := 24) (by kernel_rfl) ?_
      refine wpR_op (i := 24) rfl (by rfl) (fun K hK => ?_)
      go_simp
      refine (rmore_c Aa La ca cs T f al wM20 MF HT.out hf HLA.out (by omega) HAB.out (HNA.out.grow ((g26.trans hW0).trans (Grow.trans (Grow.trans (Grow.trans (Grow.refl W0) hM10) hM13) hM20))) HMF.out).mono ?_
      rintro e wM24 ⟨rfl, hM24⟩
      have hcs : ∀ wg, Grow wM24 wg → (convert 28 9 (.slice (some ⟨gs, 0, none⟩) N N)).run Try.prog wg = .ok (.string sS) wg := fun wg hg =>
        sealed_str HR5.out HLA.out HNN.out HSS.out ((hb6.trans hW0).trans ((Grow.trans (Grow.trans (Grow.trans (Grow.trans (Grow.refl W0) hM10) hM13) hM20) hM24).trans hg))
      refine hK.out _ _ hM24 ?_
      clear hK K
      try simp only [Act.put, List.setIfInBounds_toArray, List.set_cons_zero, List.set_cons_succ]
      refine wpR_take growOrd (i := 25) (v := ?vf22) rfl (by kernel_rfl) (by kernel_rfl) (by kernel_rfl) (fun _ _ _ h => h) (by rfl) ?hf22 ?rf22
      case hf22 => (intro wg hSw; go_simp <;> with_reducible rfl)
      simp only [Act.put, List.setIfInBounds_toArray, List.set_cons_zero, List.set_cons_succ]
      refine wpR_take growOrd (i := 26) (v := ?vf23) rfl (by kernel_rfl) (by kernel_rfl) (by kernel_rfl) (fun _ _ _ h => h) (by rfl) ?hf23 ?rf23
      case hf23 => (intro wg hSw; go_simp <;> with_reducible rfl)
      simp only [Act.put, List.setIfInBounds_toArray, List.set_cons_zero, List.set_cons_succ]
      refine wpR_take growOrd (i := 27) (v := ?vf24) rfl (by kernel_rfl) (by kernel_rfl) (by kernel_rfl) (fun _ _ _ h => h) (by rfl) ?hf24 ?rf24
      case hf24 => (intro wg hSw; go_simp <;> with_reducible rfl)
      simp only [Act.put, List.setIfInBounds_toArray, List.set_cons_zero, List.set_cons_succ]
      refine wpR_take growOrd (i := 28) (v := ?vf25) rfl (by kernel_rfl) (by kernel_rfl) (by kernel_rfl) (fun _ _ _ h => h) (by rfl) ?hf25 ?rf25
      case hf25 => (intro wg hSw; go_simp <;> with_reducible rfl)
      simp only [Act.put, List.setIfInBounds_toArray, List.set_cons_zero, List.set_cons_succ]
      refine wpR_take growOrd (i := 29) (v := ?vf26) rfl (by kernel_rfl) (by kernel_rfl) (by kernel_rfl) (fun _ _ _ h => h) (by rfl) ?hf26 ?rf26
      case hf26 => (intro wg hSw; go_simp <;> with_reducible rfl)
      simp only [Act.put, List.setIfInBounds_toArray, List.set_cons_zero, List.set_cons_succ]
      refine wpR_take growOrd (i := 30) (v := Value.agg cs) rfl (by kernel_rfl) (by kernel_rfl) (by kernel_rfl) (fun _ _ _ h => h) (by rfl) ?hf27 ?rf27
      case hf27 => exact fun wg hSw => exec_tab rfl rfl (htb wg (Grow.trans (Grow.trans (Grow.trans (Grow.trans (Grow.trans (Grow.refl W0) hM10) hM13) hM20) hM24) hSw)) hs
      simp only [Act.put, List.setIfInBounds_toArray, List.set_cons_zero, List.set_cons_succ]
      refine wpR_take growOrd (i := 31) (v := ?vf28) rfl (by kernel_rfl) (by kernel_rfl) (by kernel_rfl) (fun _ _ _ h => h) (by rfl) ?hf28 ?rf28
      case hf28 => (intro wg hSw; go_simp <;> with_reducible rfl)
      simp only [Act.put, List.setIfInBounds_toArray, List.set_cons_zero, List.set_cons_succ]
      refine wpR_one (i := 32) (by kernel_rfl) ?_
      refine wpR_op (i := 32) rfl (by rfl) (fun K hK => ?_)
      go_simp
      clear hcs
      refine (rseal_n Aa ca La N cs T al wM24 HT.out HLA.out HNN.out (by omega) HEA.out HAB.out (HNA.out.grow ((g26.trans hW0).trans (Grow.trans (Grow.trans (Grow.trans (Grow.trans (Grow.refl W0) hM10) hM13) hM20) hM24)))).mono ?_
      rintro e wM32 ⟨A32, c32, rfl, hn32, hM32⟩
      have HN32 := Lib.hid hn32
      have hc32 : ∀ wg, Grow wM32 wg → (convert 28 9 (.slice A32 N c32)).run Try.prog wg = .ok (.string sS) wg := fun wg hg => by
        rw [← HSS.out]
        exact conv_n c32 (HN32.out.grow hg) (by rw [sealN_len, HLA.out, HNN.out])
      have hcx : ∀ wg, Grow wM32 wg → (convert 28 9 (.slice Ax lx cx)).run Try.prog wg = .ok (.string sX) wg := fun wg hg => by
        rw [← HSX.out]
        exact conv_n cx (HNX.out.grow ((g36.trans hW0).trans ((Grow.trans (Grow.trans (Grow.trans (Grow.trans (Grow.trans (Grow.refl W0) hM10) hM13) hM20) hM24) hM32).trans hg))) HLX.out
      have hcy : ∀ wg, Grow wM32 wg → (convert 28 9 (.slice Ay lx cy)).run Try.prog wg = .ok (.string sX) wg := fun wg hg => by
        rw [← HSX.out]
        exact conv_n cy (HNY.out.grow ((g46.trans hW0).trans ((Grow.trans (Grow.trans (Grow.trans (Grow.trans (Grow.trans (Grow.refl W0) hM10) hM13) hM20) hM24) hM32).trans hg))) HLX.out
      have hcz : ∀ wg, Grow wM32 wg → (convert 28 9 (.slice (some ⟨gz, 0, none⟩) La La)).run Try.prog wg = .ok (.string sA) wg := fun wg hg => by
        rw [← HSA.out]
        exact conv_n La ((show Nums .u8 w6 w6.heap.size (some ⟨gz, 0, none⟩) al from Nums.of_row (t := 5) (by rw [HLA.out]; exact HR6.out)).grow (hW0.trans ((Grow.trans (Grow.trans (Grow.trans (Grow.trans (Grow.trans (Grow.refl W0) hM10) hM13) hM20) hM24) hM32).trans hg))) HLA.out
      have hca : ∀ wg, Grow wM32 wg → (convert 28 9 (.slice Aa La ca)).run Try.prog wg = .ok (.string sA) wg := fun wg hg => by
        rw [← HSA.out]
        exact conv_n ca (HNA.out.grow ((g26.trans hW0).trans ((Grow.trans (Grow.trans (Grow.trans (Grow.trans (Grow.trans (Grow.refl W0) hM10) hM13) hM20) hM24) hM32).trans hg))) HLA.out
      clear hn32
      refine hK.out _ _ hM32 ?_
      clear hK K
      try simp only [Act.put, List.setIfInBounds_toArray, List.set_cons_zero, List.set_cons_succ]
      refine wpR_take growOrd (i := 33) (v := ?vf29) rfl (by kernel_rfl) (by kernel_rfl) (by kernel_rfl) (fun _ _ _ h => h) (by rfl) ?hf29 ?rf29
      case hf29 => (intro wg hSw; go_simp <;> with_reducible rfl)
      simp only [Act.put, List.setIfInBounds_toArray, List.set_cons_zero, List.set_cons_succ]
      refine wpR_take growOrd (i := 34) (v := ?vf30) rfl (by kernel_rfl) (by kernel_rfl) (by kernel_rfl) (fun _ _ _ h => h) (by rfl) ?hf30 ?rf30
      case hf30 => (intro wg hSw; go_simp <;> with_reducible rfl)
      simp only [Act.put, List.setIfInBounds_toArray, List.set_cons_zero, List.set_cons_succ]
      refine wpR_take growOrd (i := 35) (v := ?vf31) rfl (by kernel_rfl) (by kernel_rfl) (by kernel_rfl) (fun _ _ _ h => h) (by rfl) ?hf31 ?rf31
      case hf31 => (intro wg hSw; go_simp <;> with_reducible rfl)
      simp only [Act.put, List.setIfInBounds_toArray, List.set_cons_zero, List.set_cons_succ]
      refine wpR_take growOrd (i := 36) (v := ?vf32) rfl (by kernel_rfl) (by kernel_rfl) (by kernel_rfl) (fun _ _ _ h => h) (by rfl) ?hf32 ?rf32
      case hf32 => (intro wg hSw; go_simp <;> with_reducible rfl)
      simp only [Act.put, List.setIfInBounds_toArray, List.set_cons_zero, List.set_cons_succ]
      refine wpR_take growOrd (i := 37) (v := ?vf33) rfl (by kernel_rfl) (by kernel_rfl) (by kernel_rfl) (fun _ _ _ h => h) (by rfl) ?hf33 ?rf33
      case hf33 => (intro wg hSw; go_simp <;> with_reducible rfl)
      simp only [Act.put, List.setIfInBounds_toArray, List.set_cons_zero, List.set_cons_succ]
      refine wpR_take growOrd (i := 38) (v := ?vf34) rfl (by kernel_rfl) (by kernel_rfl) (by kernel_rfl) (fun _ _ _ h => h) (by rfl) ?hf34 ?rf34
      case hf34 => (intro wg hSw; go_simp <;> with_reducible rfl)
      simp only [Act.put, List.setIfInBounds_toArray, List.set_cons_zero, List.set_cons_succ]
      refine wpR_take growOrd (i := 39) (v := ?vf35) rfl (by kernel_rfl) (by kernel_rfl) (by kernel_rfl) (fun _ _ _ h => h) (by rfl) ?hf35 ?rf35
      case hf35 => (intro wg hSw; go_simp <;> with_reducible rfl)
      simp only [Act.put, List.setIfInBounds_toArray, List.set_cons_zero, List.set_cons_succ]
      refine wpR_take growOrd (i := 40) (v := ?vf36) rfl (by kernel_rfl) (by kernel_rfl) (by kernel_rfl) (fun _ _ _ h => h) (by rfl) ?hf36 ?rf36
      case hf36 => (intro wg hSw; go_simp <;> with_reducible rfl)
      simp only [Act.put, List.setIfInBounds_toArray, List.set_cons_zero, List.set_cons_succ]
      refine wpR_take growOrd (i := 41) (v := ?vf37) rfl (by kernel_rfl) (by kernel_rfl) (by kernel_rfl) (fun _ _ _ h => h) (by rfl) ?hf37 ?rf37
      case hf37 => (intro wg hSw; go_simp <;> with_reducible rfl)
      simp only [Act.put, List.setIfInBounds_toArray, List.set_cons_zero, List.set_cons_succ]
      refine wpR_take growOrd (i := 42) (v := ?vf38) rfl (by kernel_rfl) (by kernel_rfl) (by kernel_rfl) (fun _ _ _ h => h) (by rfl) ?hf38 ?rf38
      case hf38 => (intro wg hSw; go_simp <;> with_reducible rfl)
      simp only [Act.put, List.setIfInBounds_toArray, List.set_cons_zero, List.set_cons_succ]
      refine wpR_take growOrd (i := 43) (v := ?vf39) rfl (by kernel_rfl) (by kernel_rfl) (by kernel_rfl) (fun _ _ _ h => h) (by rfl) ?hf39 ?rf39
      case hf39 => (intro wg hSw; go_simp <;> with_reducible rfl)
      simp only [Act.put, List.setIfInBounds_toArray, List.set_cons_zero, List.set_cons_succ]
      refine wpR_take growOrd (i := 44) (v := ?vf40) rfl (by kernel_rfl) (by kernel_rfl) (by kernel_rfl) (fun _ _ _ h => h) (by rfl) ?hf40 ?rf40
      case hf40 => (intro wg hSw; go_simp <;> with_reducible rfl)
      simp only [Act.put, List.setIfInBounds_toArray, List.set_cons_zero, List.set_cons_succ]
      refine wpR_take growOrd (i := 45) (v := ?vf41) rfl (by kernel_rfl) (by kernel_rfl) (by kernel_rfl) (fun _ _ _ h => h) (by rfl) ?hf41 ?rf41
      case hf41 => (intro wg hSw; go_simp <;> with_reducible rfl)
      simp only [Act.put, List.setIfInBounds_toArray, List.set_cons_zero, List.set_cons_succ]
      refine wpR_take growOrd (i := 46) (v := ?vf42) rfl (by kernel_rfl) (by kernel_rfl) (by kernel_rfl) (fun _ _ _ h => h) (by rfl) ?hf42 ?rf42
      case hf42 => (intro wg hSw; go_simp <;> with_reducible rfl)
      simp only [Act.put, List.setIfInBounds_toArray, List.set_cons_zero, List.set_cons_succ]
      refine wpR_take growOrd (i := 47) (v := ?vf43) rfl (by kernel_rfl) (by kernel_rfl) (by kernel_rfl) (fun _ _ _ h => h) (by rfl) ?hf43 ?rf43
      case hf43 => (intro wg hSw; go_simp <;> with_reducible rfl)
      simp only [Act.put, List.setIfInBounds_toArray, List.set_cons_zero, List.set_cons_succ]
      refine wpR_take growOrd (i := 48) (v := ?vf44) rfl (by kernel_rfl) (by kernel_rfl) (by kernel_rfl) (fun _ _ _ h => h) (by rfl) ?hf44 ?rf44
      case hf44 => (intro wg hSw; go_simp <;> with_reducible rfl)
      simp only [Act.put, List.setIfInBounds_toArray, List.set_cons_zero, List.set_cons_succ]
      refine wpR_take growOrd (i := 49) (v := ?vf45) rfl (by kernel_rfl) (by kernel_rfl) (by kernel_rfl) (fun _ _ _ h => h) (by rfl) ?hf45 ?rf45
      case hf45 => (intro wg hSw; go_simp <;> with_reducible rfl)
      simp only [Act.put, List.setIfInBounds_toArray, List.set_cons_zero, List.set_cons_succ]
      refine wpR_take growOrd (i := 50) (v := ?vf46) rfl (by kernel_rfl) (by kernel_rfl) (by kernel_rfl) (fun _ _ _ h => h) (by rfl) ?hf46 ?rf46
      case hf46 => (intro wg hSw; go_simp <;> with_reducible rfl)
      simp only [Act.put, List.setIfInBounds_toArray, List.set_cons_zero, List.set_cons_succ]
      refine wpR_take growOrd (i := 51) (v := ?vf47) rfl (by kernel_rfl) (by kernel_rfl) (by kernel_rfl) (fun _ _ _ h => h) (by rfl) ?hf47 ?rf47
      case hf47 => (intro wg hSw; go_simp <;> with_reducible rfl)
      simp only [Act.put, List.setIfInBounds_toArray, List.set_cons_zero, List.set_cons_succ]
      refine wpR_take growOrd (i := 52) (v := ?vf48) rfl (by kernel_rfl) (by kernel_rfl) (by kernel_rfl) (fun _ _ _ h => h) (by rfl) ?hf48 ?rf48
      case hf48 => (intro wg hSw; go_simp <;> with_reducible rfl)
      simp only [Act.put, List.setIfInBounds_toArray, List.set_cons_zero, List.set_cons_succ]
      refine wpR_take growOrd (i := 53) (v := ?vf49) rfl (by kernel_rfl) (by kernel_rfl) (by kernel_rfl) (fun _ _ _ h => h) (by rfl) ?hf49 ?rf49
      case hf49 => (intro wg hSw; go_simp <;> with_reducible rfl)
      simp only [Act.put, List.setIfInBounds_toArray, List.set_cons_zero, List.set_cons_succ]
      refine wpR_take growOrd (i := 54) (v := ?vf50) rfl (by kernel_rfl) (by kernel_rfl) (by kernel_rfl) (fun _ _ _ h => h) (by rfl) ?hf50 ?rf50
      case hf50 => (intro wg hSw; go_simp <;> with_reducible rfl)
      simp only [Act.put, List.setIfInBounds_toArray, List.set_cons_zero, List.set_cons_succ]
      refine wpR_take growOrd (i := 55) (v := ?vf51) rfl (by kernel_rfl) (by kernel_rfl) (by kernel_rfl) (fun _ _ _ h => h) (by rfl) ?hf51 ?rf51
      case hf51 => (intro wg hSw; go_simp <;> with_reducible rfl)
      simp only [Act.put, List.setIfInBounds_toArray, List.set_cons_zero, List.set_cons_succ]
      refine wpR_take growOrd (i := 56) (v := ?vf52) rfl (by kernel_rfl) (by kernel_rfl) (by kernel_rfl) (fun _ _ _ h => h) (by rfl) ?hf52 ?rf52
      case hf52 => (intro wg hSw; go_simp <;> with_reducible rfl)
      simp only [Act.put, List.setIfInBounds_toArray, List.set_cons_zero, List.set_cons_succ]
      refine wpR_take growOrd (i := 57) (v := ?vf53) rfl (by kernel_rfl) (by kernel_rfl) (by kernel_rfl) (fun _ _ _ h => h) (by rfl) ?hf53 ?rf53
      case hf53 => (intro wg hSw; go_simp <;> with_reducible rfl)
      simp only [Act.put, List.setIfInBounds_toArray, List.set_cons_zero, List.set_cons_succ]
      refine wpR_take growOrd (i := 58) (v := ?vf54) rfl (by kernel_rfl) (by kernel_rfl) (by kernel_rfl) (fun _ _ _ h => h) (by rfl) ?hf54 ?rf54
      case hf54 => (intro wg hSw; go_simp <;> with_reducible rfl)
      simp only [Act.put, List.setIfInBounds_toArray, List.set_cons_zero, List.set_cons_succ]
      refine wpR_done (by kernel_rfl) ?_
      go_wp2
      go_ret
      exact ⟨rfl, hw0.trans (Grow.trans (Grow.trans (Grow.trans (Grow.trans (Grow.trans (Grow.refl W0) hM10) hM13) hM20) hM24) hM32)⟩
end Go.Proofs.Ytbpdjohbbhblcaa
