/-
  The law CrcUnlike, walked: it answers true, called with any bytes, any polynomial and any turn, and turns nothing that was there.
-/
import Derived.Test.YtbpdjohbbhblcaaTurn
import Derived.Test.YtbpdjohbbhblcaaFlow
import Derived.BigRegion
namespace Go.Proofs.Ytbpdjohbbhblcaa
open Go.RowKit
set_option linter.unusedSimpArgs false

theorem Prts.grow {w w' : World} {A : Option Addr} {ps : List (List Int)} (h : Prts w w.heap.size A ps) (hg : Grow w w') : Prts w' w'.heap.size A ps := (h.below hg).more hg.size
theorem prts_lit1 (w : World) (A : Option Addr) (n cap : Nat) (p : List Int) (hn : n = p.length) (hc : A = none → cap = 0) (hr : Nums .u8 w w.heap.size A p) :
    Prts (w.alloc (.cells #[.slice A n cap] 28)) (w.alloc (.cells #[.slice A n cap] 28)).heap.size (some ⟨w.heap.size, 0, none⟩) [p] :=
  prts_lit w [(A, n, cap, p)] (by simp; exact ⟨hn, hc, hr⟩)
theorem sum_p1 (A : Option Addr) (cs : Array Value) (T : Nat → Nat) (p : List Int) (w : World) (hT : IsTab cs T) (hl : p.length ≤ 1000000000000000000) (hb : Byt p) (h : Prts w w.heap.size A [p]) :
    Calls Try.prog 16 #[.agg cs, .slice A 1 1] w fun e w' => e = .returned (.int .u32 (moreN T 0 p : Nat)) ∧ Grow w w' := by
  have := sum_any A 1 cs T [p] w hT (fits_one hl hb) h
  rw [flat_one] at this
  exact this

theorem own_empty (w : World) : (w.alloc (.cells #[] 5)).ownsRow w.heap.size 5 1 (.slice (some ⟨w.heap.size, 0, none⟩) 0 0) 0 (u8s []) :=
  ⟨rfl, .inr ⟨w.heap.size, 0, #[], rfl, Nat.le_refl _, heap_alloc_new w _, Nat.le_refl _, by unfold maxLen; omega, rfl, rfl⟩⟩

theorem own_some {w : World} {base n : Nat} {v : Value} {xs : List Value} (h : w.ownsRow base 5 1 v n xs) (hn : v ≠ .slice none 0 0) : ∃ g cap, v = .slice (some ⟨g, 0, none⟩) n cap := by
  rcases h.2 with ⟨h0, _⟩ | ⟨g, cap, _, hv, _⟩
  · exact absurd h0 hn
  · exact ⟨g, cap, hv⟩

theorem more_ne {T : Nat → Nat} {a b : List Int} (h : raw T 4294967295 a ≠ raw T 4294967295 b) : moreN T 0 a ≠ moreN T 0 b := by
  unfold moreN
  rw [Nat.zero_xor]
  intro e
  apply h
  have := congrArg (· ^^^ 4294967295) e
  simpa [Nat.xor_assoc] using this

set_option maxRecDepth 10000 in
set_option maxHeartbeats 4000000 in
theorem unlike_yes (A : Option Addr) (cap n : Nat) (bs : List Int) (p k m : Nat) (w : World) (hn : bs.length = n) (hl : n ≤ 1000) (hp : 2147483648 ≤ p) (hp2 : p < 4294967296) (hm : m < 4294967296) (hm0 : m ≠ 0) (hk : k + 32 ≤ 8 * n)
    (hb : Byt bs) (hr : Nums .u8 w w.heap.size A bs) : Calls Try.prog 8 #[.slice A n cap, .int .u32 p, .int .i64 k, .int .u32 m] w (Fine w) := by
  have d1 : decide ((1000 : Int) < (n : Int)) = false := by simp; omega
  have d2 : decide ((p : Int) < 2147483648) = false := by simp; omega
  have d3 : ((m : Int) == 0) = false := by rw [beq_eq_false_iff_ne]; omega
  have d4 : decide ((k : Int) < 0) = false := by simp
  have d5 : decide (8 * (n : Int) - 32 < (k : Int)) = false := by simp; omega
  have HN := Lib.hid hn
  have HR := Lib.hid hr
  have HB := Lib.hid hb
  obtain ⟨b, off, rfl, _, _⟩ := hr (by omega)
  clear hr hn hb
  obtain ⟨i0, hi, hz0, hz1, hz2⟩ := info_parts info5
  have hz := zero24
  go_enter Try.func8, Try.ntmps8
  go_wp2_with fail
  refine (small_any w).mono ?_
  rintro e w1 ⟨rfl, hb1⟩
  have HR1 := Lib.hid (HR.out.grow hb1)
  have HE := Lib.hid (own_empty w1)
  have HNW := Lib.hid (nums_news (HR1.out.below (grow_new w1 (.cells #[] 5))))
  go_wp2_with (at_builtin; refine wpList_append_own _ rfl _ _ 28 rfl w1.heap.size 5 i0 (.int .u8 0) 1 1 Try.underlying28 hi hz0 hz1 hz2 rfl (by decide) _ _ _ rfl HE.out ⟨b, off, none⟩ n cap (u8s bs) rfl (by rw [u8s_len, HN.out]; omega) HNW.out (u8s_one bs) (by unfold maxLen; omega) (by omega) (by simp) ?_; intro v w2 hown hgrow hnil)
  have hb2 : Below w1.heap.size w1 w2 := Below.grown (grow_new w1 _) hgrow (by simp) (fun k hk => by cases hk; exact Nat.le_refl _)
  obtain ⟨g, c, rfl⟩ := own_some hown (fun h => by have := (hnil.1 h).1; cases this)
  rw [Nat.zero_add] at hown ⊢
  have HOR := Lib.hid (own_rowF HN.out.symm hown)
  clear hown hgrow hnil
  obtain ⟨hg1, hnc, R, hrow0⟩ := HOR.out
  have HROW := Lib.hid hrow0
  clear hrow0
  go_wp2
  clear d1 d2 d3 d4 d5
  go_loopw [11] (fun v wr => ∃ i : Nat, i ≤ 32 ∧ v = .int .i64 i ∧ ∃ xs, Turned bs m k i xs ∧ wr.rowIs g 5 c (rowF n xs R) ∧ Below w1.heap.size w1 wr)
    (fun v _ => 32 - (intOf v).toNat)
  case atStart => exact ⟨0, Nat.zero_le _, rfl, bs, turned_zero HB.out m k, HROW.out, hb2⟩
  case round =>
    obtain ⟨i, hi32, rfl, xs, htur, hrow, hbel⟩ := hrel
    have HTU := Lib.hid htur
    have HRW := Lib.hid hrow
    clear htur hrow hb2
    by_cases hlt : i < 32
    · have hand := bit_and m i hm
      by_cases hbit : m / 2 ^ i % 2 = 1
      · rw [hbit] at hand
        have hbt : (bits .and .u32 ((m : Int) / 2 ^ i) 1 == 1) = true := by rw [hand]; rfl
        obtain ⟨q, hq⟩ : ∃ q : Nat, (k + i) / 8 = q := ⟨_, rfl⟩
        obtain ⟨r, hr8⟩ : ∃ r : Nat, (k + i) % 8 = r := ⟨_, rfl⟩
        have hq' : ((k : Int) + i) / 8 = q := by omega
        have hr' : ((k : Int) + i) % 8 = r := by omega
        have hqn : q < n := by omega
        have hr7 : r ≤ 7 := by omega
        have hxl : xs.length = n := by rw [HTU.out.len, HN.out]
        have hcq := HRW.out.cell (i := q) (by omega)
        have hfq := HRW.out.frozen q
        have hx := HTU.out.byt.at_ q
        rw [show rowF n xs R q = .int .u8 (xs.getD q 0) by simp [rowF, hqn]] at hcq
        have hxor := turn_byte (xs.getD q 0) r hx hr7
        have HXL := Lib.hid hxl
        have HBI := Lib.hid hbit
        have HQ := Lib.hid hq
        have HR8 := Lib.hid hr8
        have HXO := Lib.hid hxor
        have hsum : IntKind.i64.wrap ((k : Int) + i) = (k : Int) + i := IntWalk.i64_in _ (by omega)
        clear hand hxl hbit hq hr8 hxor hx
        obtain ⟨x, hxq⟩ : ∃ x, xs.getD q 0 = x := ⟨_, rfl⟩
        rw [hxq] at hcq HXO
        have HXQ := Lib.hid hxq
        clear hxq
        go_wp2
        go_region
        go_wp2
        go_roundw
        case rel =>
          refine ⟨i + 1, by omega, by go_num, _, turned_on HTU.out HBI.out HQ.out HR8.out (by rw [HN.out]; omega), ?_, (hbel.setCell hg1 _).drew⟩
          rw [HXQ.out]
          have := (rowF_set HRW.out hqn HXL.out (((x.toNat ^^^ 2 ^ r : Nat) : Int))).drew
          rw [← HXO.out] at this
          rw [← HXO.out]
          exact this
        case measure => simp [intOf]; omega
      · have h0 : m / 2 ^ i % 2 = 0 := by omega
        rw [h0] at hand
        have hbt : (bits .and .u32 ((m : Int) / 2 ^ i) 1 == 1) = false := by rw [hand]; rfl
        have HBI := Lib.hid hbit
        clear hand hbit h0
        go_wp2
        go_roundw
        case rel => exact ⟨i + 1, by omega, by go_num, xs, turned_off HTU.out HBI.out, HRW.out, hbel⟩
        case measure => simp [intOf]; omega
    · have e : i = 32 := by omega
      subst e
      have hne := more_ne (raw_turn p bs xs HB.out HTU.out.byt HTU.out.len 4294967295 m k hp hp2 hm hm0 (by rw [HN.out]; omega) (turned_done hm HTU.out))
      have hnb : (((moreN (tabF p) 0 xs : Nat) : Int) != ((moreN (tabF p) 0 bs : Nat) : Int)) = true := by
        rw [bne_iff_ne]
        exact fun h => hne (Int.ofNat.inj h)
      have HXN := Lib.hid ((rowF_nums HRW.out (by rw [HTU.out.len, HN.out]) hnc))
      have HBN := Lib.hid (((HR1.out.below hbel).more hbel.size))
      clear hne
      go_wp2_with fail
      refine (table_any p wr hp2).mono ?_
      rintro e w3 ⟨cs, rfl, hT, hb3⟩
      have hs := hT.1
      have HT := Lib.hid hT
      have hg0 := heap_alloc_new w3 (.cells zs24 24)
      have hg3 := setRow_heap (w3.alloc (.cells zs24 24)) w3.heap.size zs24 cs 24 (0, 0) hg0
      have hb4 : Grow w3 ((w3.alloc (.cells zs24 24)).setRow w3.heap.size cs) := Below.trans (grow_new _ _) (below_setRow (Below.refl w3.heap.size (w3.alloc (.cells zs24 24))) (Nat.le_refl _) cs)
      have hs2 : w3.heap.size < ((w3.alloc (.cells zs24 24)).setRow w3.heap.size cs).heap.size := by simp
      have hs24 : (Try.prog.info? 24).map (·.size) = some cs.size := by rw [hs]; exact size24
      have hz24 : zs24.size = cs.size := by rw [hs]; exact zs_size
      clear hT
      go_wp2_with (refine wpList_store_row rfl 24 _ _ rfl w3.heap.size cs rfl rfl 24 zs24 hg0 hs24 hz24 (tab_one HT.out) ?_)
      generalize (w3.alloc (.cells zs24 24)).setRow w3.heap.size cs = w4 at *
      clear hg0 hs24 hz24 hz
      refine wp_region_R Grow (n := 13) rfl (by kernel_rfl) ?_
      intro W0 hW0e hW0
      have htb : ∀ wg, Grow W0 wg → wg.heap[w3.heap.size]? = some (.cells cs 24 (0, 0)) := fun wg hg => ((hW0.trans hg).block w3.heap.size hs2).trans hg3
      have HX0 := Lib.hid (HXN.out.grow ((Grow.trans hb3 hb4).trans hW0))
      have HB0 := Lib.hid (HBN.out.grow ((Grow.trans hb3 hb4).trans hW0))
      have HFIN := Lib.hid (((Grow.trans hb1 (Below.trans hbel (Below.mono (Grow.trans hb3 hb4) hbel.size))).trans hW0))
      clear hW0e
      refine wpR_take growOrd (i := 0) (v := ?vf1) rfl (by kernel_rfl) (by kernel_rfl) (by kernel_rfl) (fun _ _ _ h => h) (by rfl) ?hf1 ?rf1
      case hf1 => (intro wg hSw; go_simp <;> with_reducible rfl)
      simp only [Act.put, List.setIfInBounds_toArray, List.set_cons_zero, List.set_cons_succ]
      refine wpR_take growOrd (i := 1) (v := ?vf2) rfl (by kernel_rfl) (by kernel_rfl) (by kernel_rfl) (fun _ _ _ h => h) (by rfl) ?hf2 ?rf2
      case hf2 => (intro wg hSw; go_simp <;> with_reducible rfl)
      simp only [Act.put, List.setIfInBounds_toArray, List.set_cons_zero, List.set_cons_succ]
      refine wpR_take growOrd (i := 2) (v := Value.agg cs) rfl (by kernel_rfl) (by kernel_rfl) (by kernel_rfl) (fun _ _ _ h => h) (by rfl) ?hf3 ?rf3
      case hf3 => exact fun wg hSw => exec_tab rfl rfl (htb wg hSw) hs
      simp only [Act.put, List.setIfInBounds_toArray, List.set_cons_zero, List.set_cons_succ]
      refine wpR_take growOrd (i := 3) (v := ?vf4) rfl (by kernel_rfl) (by kernel_rfl) (by kernel_rfl) (fun _ _ _ h => h) (by rfl) ?hf4 ?rf4
      case hf4 => (intro wg hSw; go_simp <;> with_reducible rfl)
      simp only [Act.put, List.setIfInBounds_toArray, List.set_cons_zero, List.set_cons_succ]
      refine wpR_take growOrd (i := 6) (v := Value.agg cs) rfl (by kernel_rfl) (by kernel_rfl) (by kernel_rfl) (fun _ _ _ h => h) (by rfl) ?hf5 ?rf5
      case hf5 => exact fun wg hSw => exec_tab rfl rfl (htb wg hSw) hs
      simp only [Act.put, List.setIfInBounds_toArray, List.set_cons_zero, List.set_cons_succ]
      refine wpR_take growOrd (i := 7) (v := ?vf6) rfl (by kernel_rfl) (by kernel_rfl) (by kernel_rfl) (fun _ _ _ h => h) (by rfl) ?hf6 ?rf6
      case hf6 => (intro wg hSw; go_simp <;> with_reducible rfl)
      simp only [Act.put, List.setIfInBounds_toArray, List.set_cons_zero, List.set_cons_succ]
      refine wpR_two (i := 4) (j := 8) (by kernel_rfl) ?_ ?_
      · refine wpR_op (i := 4) rfl (by rfl) (fun K hK => ?_)
        go_simp
        refine hK.out _ _ (grow_new _ _) ?_
        clear hK K
        try simp only [Act.put, List.setIfInBounds_toArray, List.set_cons_zero, List.set_cons_succ]
        generalize hwM4 : World.alloc W0 (Obj.cells _ 28) = wM4
        have hM4 : Grow W0 wM4 := by rw [← hwM4]; exact grow_new _ _
        have hB4 : Prts wM4 wM4.heap.size (some ⟨W0.heap.size, 0, none⟩) [xs] := by
          rw [← hwM4]
          exact prts_lit1 W0 (some ⟨g, 0, none⟩) n c xs (by rw [HTU.out.len, HN.out]) (by simp) (HX0.out.grow (Grow.refl W0))
        clear hwM4
        refine wpR_two (i := 5) (j := 8) (by kernel_rfl) ?_ ?_
        · refine wpR_op (i := 5) rfl (by rfl) (fun K hK => ?_)
          go_simp
          refine (sum_p1 _ cs (tabF p) xs wM4 HT.out (by rw [HTU.out.len, HN.out]; omega) HTU.out.byt hB4).mono ?_
          rintro e wM5 ⟨rfl, hM5⟩
          refine hK.out _ _ hM5 ?_
          clear hK K
          try simp only [Act.put, List.setIfInBounds_toArray, List.set_cons_zero, List.set_cons_succ]
          refine wpR_one (i := 8) (by kernel_rfl) ?_
          refine wpR_op (i := 8) rfl (by rfl) (fun K hK => ?_)
          go_simp
          refine hK.out _ _ (grow_new _ _) ?_
          clear hK K
          try simp only [Act.put, List.setIfInBounds_toArray, List.set_cons_zero, List.set_cons_succ]
          generalize hwM8 : World.alloc wM5 (Obj.cells _ 28) = wM8
          have hM8 : Grow wM5 wM8 := by rw [← hwM8]; exact grow_new _ _
          have hB8 : Prts wM8 wM8.heap.size (some ⟨wM5.heap.size, 0, none⟩) [bs] := by
            rw [← hwM8]
            exact prts_lit1 wM5 (some ⟨b, off, none⟩) n cap bs HN.out.symm (by simp) (HB0.out.grow (Grow.trans (Grow.trans (Grow.refl W0) hM4) hM5))
          clear hwM8
          refine wpR_one (i := 9) (by kernel_rfl) ?_
          refine wpR_op (i := 9) rfl (by rfl) (fun K hK => ?_)
          go_simp
          refine (sum_p1 _ cs (tabF p) bs wM8 HT.out (by rw [HN.out]; omega) HB.out hB8).mono ?_
          rintro e wM9 ⟨rfl, hM9⟩
          refine hK.out _ _ hM9 ?_
          clear hK K
          try simp only [Act.put, List.setIfInBounds_toArray, List.set_cons_zero, List.set_cons_succ]
          refine wpR_take growOrd (i := 10) (v := ?vf7) rfl (by kernel_rfl) (by kernel_rfl) (by kernel_rfl) (fun _ _ _ h => h) (by rfl) ?hf7 ?rf7
          case hf7 => (intro wg hSw; go_simp <;> with_reducible rfl)
          simp only [Act.put, List.setIfInBounds_toArray, List.set_cons_zero, List.set_cons_succ]
          refine wpR_take growOrd (i := 11) (v := ?vf8) rfl (by kernel_rfl) (by kernel_rfl) (by kernel_rfl) (fun _ _ _ h => h) (by rfl) ?hf8 ?rf8
          case hf8 => (intro wg hSw; go_simp <;> with_reducible rfl)
          simp only [Act.put, List.setIfInBounds_toArray, List.set_cons_zero, List.set_cons_succ]
          refine wpR_take growOrd (i := 12) (v := ?vf9) rfl (by kernel_rfl) (by kernel_rfl) (by kernel_rfl) (fun _ _ _ h => h) (by rfl) ?hf9 ?rf9
          case hf9 => (intro wg hSw; go_simp <;> with_reducible rfl)
          simp only [Act.put, List.setIfInBounds_toArray, List.set_cons_zero, List.set_cons_succ]
          refine wpR_done (by kernel_rfl) ?_
          go_wp2
          go_ret
          exact ⟨rfl, HFIN.out.trans (Grow.trans (Grow.trans (Grow.trans (Grow.trans (Grow.refl W0) hM4) hM5) hM8) hM9)⟩
        · refine wpR_op (i := 8) rfl (by rfl) (fun K hK => ?_)
          go_simp
          refine hK.out _ _ (grow_new _ _) ?_
          clear hK K
          try simp only [Act.put, List.setIfInBounds_toArray, List.set_cons_zero, List.set_cons_succ]
          generalize hwM8 : World.alloc wM4 (Obj.cells _ 28) = wM8
          have hM8 : Grow wM4 wM8 := by rw [← hwM8]; exact grow_new _ _
          have hB8 : Prts wM8 wM8.heap.size (some ⟨wM4.heap.size, 0, none⟩) [bs] := by
            rw [← hwM8]
            exact prts_lit1 wM4 (some ⟨b, off, none⟩) n cap bs HN.out.symm (by simp) (HB0.out.grow (Grow.trans (Grow.refl W0) hM4))
          clear hwM8
          refine wpR_one (i := 5) (by kernel_rfl) ?_
          refine wpR_op (i := 5) rfl (by rfl) (fun K hK => ?_)
          go_simp
          refine (sum_p1 _ cs (tabF p) xs wM8 HT.out (by rw [HTU.out.len, HN.out]; omega) HTU.out.byt (hB4.grow hM8)).mono ?_
          rintro e wM5 ⟨rfl, hM5⟩
          refine hK.out _ _ hM5 ?_
          clear hK K
          try simp only [Act.put, List.setIfInBounds_toArray, List.set_cons_zero, List.set_cons_succ]
          refine wpR_one (i := 9) (by kernel_rfl) ?_
          refine wpR_op (i := 9) rfl (by rfl) (fun K hK => ?_)
          go_simp
          refine (sum_p1 _ cs (tabF p) bs wM5 HT.out (by rw [HN.out]; omega) HB.out (hB8.grow hM5)).mono ?_
          rintro e wM9 ⟨rfl, hM9⟩
          refine hK.out _ _ hM9 ?_
          clear hK K
          try simp only [Act.put, List.setIfInBounds_toArray, List.set_cons_zero, List.set_cons_succ]
          refine wpR_take growOrd (i := 10) (v := ?vf10) rfl (by kernel_rfl) (by kernel_rfl) (by kernel_rfl) (fun _ _ _ h => h) (by rfl) ?hf10 ?rf10
          case hf10 => (intro wg hSw; go_simp <;> with_reducible rfl)
          simp only [Act.put, List.setIfInBounds_toArray, List.set_cons_zero, List.set_cons_succ]
          refine wpR_take growOrd (i := 11) (v := ?vf11) rfl (by kernel_rfl) (by kernel_rfl) (by kernel_rfl) (fun _ _ _ h => h) (by rfl) ?hf11 ?rf11
          case hf11 => (intro wg hSw; go_simp <;> with_reducible rfl)
          simp only [Act.put, List.setIfInBounds_toArray, List.set_cons_zero, List.set_cons_succ]
          refine wpR_take growOrd (i := 12) (v := ?vf12) rfl (by kernel_rfl) (by kernel_rfl) (by kernel_rfl) (fun _ _ _ h => h) (by rfl) ?hf12 ?rf12
          case hf12 => (intro wg hSw; go_simp <;> with_reducible rfl)
          simp only [Act.put, List.setIfInBounds_toArray, List.set_cons_zero, List.set_cons_succ]
          refine wpR_done (by kernel_rfl) ?_
          go_wp2
          go_ret
          exact ⟨rfl, HFIN.out.trans (Grow.trans (Grow.trans (Grow.trans (Grow.trans (Grow.refl W0) hM4) hM8) hM5) hM9)⟩
      · refine wpR_op (i := 8) rfl (by rfl) (fun K hK => ?_)
        go_simp
        refine hK.out _ _ (grow_new _ _) ?_
        clear hK K
        try simp only [Act.put, List.setIfInBounds_toArray, List.set_cons_zero, List.set_cons_succ]
        generalize hwM8 : World.alloc W0 (Obj.cells _ 28) = wM8
        have hM8 : Grow W0 wM8 := by rw [← hwM8]; exact grow_new _ _
        have hB8 : Prts wM8 wM8.heap.size (some ⟨W0.heap.size, 0, none⟩) [bs] := by
          rw [← hwM8]
          exact prts_lit1 W0 (some ⟨b, off, none⟩) n cap bs HN.out.symm (by simp) (HB0.out.grow (Grow.refl W0))
        clear hwM8
        refine wpR_one (i := 4) (by kernel_rfl) ?_
        refine wpR_op (i := 4) rfl (by rfl) (fun K hK => ?_)
        go_simp
        refine hK.out _ _ (grow_new _ _) ?_
        clear hK K
        try simp only [Act.put, List.setIfInBounds_toArray, List.set_cons_zero, List.set_cons_succ]
        generalize hwM4 : World.alloc wM8 (Obj.cells _ 28) = wM4
        have hM4 : Grow wM8 wM4 := by rw [← hwM4]; exact grow_new _ _
        have hB4 : Prts wM4 wM4.heap.size (some ⟨wM8.heap.size, 0, none⟩) [xs] := by
          rw [← hwM4]
          exact prts_lit1 wM8 (some ⟨g, 0, none⟩) n c xs (by rw [HTU.out.len, HN.out]) (by simp) (HX0.out.grow (Grow.trans (Grow.refl W0) hM8))
        clear hwM4
        refine wpR_one (i := 5) (by kernel_rfl) ?_
        refine wpR_op (i := 5) rfl (by rfl) (fun K hK => ?_)
        go_simp
        refine (sum_p1 _ cs (tabF p) xs wM4 HT.out (by rw [HTU.out.len, HN.out]; omega) HTU.out.byt hB4).mono ?_
        rintro e wM5 ⟨rfl, hM5⟩
        refine hK.out _ _ hM5 ?_
        clear hK K
        try simp only [Act.put, List.setIfInBounds_toArray, List.set_cons_zero, List.set_cons_succ]
        refine wpR_one (i := 9) (by kernel_rfl) ?_
        refine wpR_op (i := 9) rfl (by rfl) (fun K hK => ?_)
        go_simp
        refine (sum_p1 _ cs (tabF p) bs wM5 HT.out (by rw [HN.out]; omega) HB.out ((hB8.grow hM4).grow hM5)).mono ?_
        rintro e wM9 ⟨rfl, hM9⟩
        refine hK.out _ _ hM9 ?_
        clear hK K
        try simp only [Act.put, List.setIfInBounds_toArray, List.set_cons_zero, List.set_cons_succ]
        refine wpR_take growOrd (i := 10) (v := ?vf13) rfl (by kernel_rfl) (by kernel_rfl) (by kernel_rfl) (fun _ _ _ h => h) (by rfl) ?hf13 ?rf13
        case hf13 => (intro wg hSw; go_simp <;> with_reducible rfl)
        simp only [Act.put, List.setIfInBounds_toArray, List.set_cons_zero, List.set_cons_succ]
        refine wpR_take growOrd (i := 11) (v := ?vf14) rfl (by kernel_rfl) (by kernel_rfl) (by kernel_rfl) (fun _ _ _ h => h) (by rfl) ?hf14 ?rf14
        case hf14 => (intro wg hSw; go_simp <;> with_reducible rfl)
        simp only [Act.put, List.setIfInBounds_toArray, List.set_cons_zero, List.set_cons_succ]
        refine wpR_take growOrd (i := 12) (v := ?vf15) rfl (by kernel_rfl) (by kernel_rfl) (by kernel_rfl) (fun _ _ _ h => h) (by rfl) ?hf15 ?rf15
        case hf15 => (intro wg hSw; go_simp <;> with_reducible rfl)
        simp only [Act.put, List.setIfInBounds_toArray, List.set_cons_zero, List.set_cons_succ]
        refine wpR_done (by kernel_rfl) ?_
        go_wp2
        go_ret
        exact ⟨rfl, HFIN.out.trans (Grow.trans (Grow.trans (Grow.trans (Grow.trans (Grow.refl W0) hM8) hM4) hM5) hM9)⟩
end Go.Proofs.Ytbpdjohbbhblcaa
