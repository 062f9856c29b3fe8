/-
  The law CrcBursts, walked: it answers true, called with any bytes, any polynomial and any turn, and turns nothing that was there.
-/
import Derived.Test.YtbpdjohbbhblcaaUnlikeAll
namespace Go.Proofs.Ytbpdjohbbhblcaa
open Go.RowKit
set_option linter.unusedSimpArgs false

theorem sealed_take (T : Nat → Nat) (bs : List Int) : (sealN T bs).take bs.length = bs := by simp [sealN]
theorem sealed_drop (T : Nat → Nat) (bs : List Int) : (sealN T bs).drop bs.length = le4 (moreN T 0 bs) := by simp [sealN]
theorem sealed_byt {T : Nat → Nat} {bs : List Int} (h : Byt bs) : Byt (sealN T bs) := h.app (le4_byt _)

/-- what is sealed, and turned within thirty-two bits, is no Seal -/
theorem turned_sealed (p n : Nat) (bs xs : List Int) (hb : Byt bs) (hn : bs.length = n) (m k : Nat) (hp : 2147483648 ≤ p) (hp2 : p < 4294967296) (hm : m < 4294967296) (hm0 : m ≠ 0) (hk : k + 32 ≤ 8 * (n + 4))
    (h : Turned (sealN (tabF p) bs) m k 32 xs) : moreN (tabF p) 0 (xs.take n) ≠ le (xs.drop n) := by
  intro he
  have hl : (sealN (tabF p) bs).length = n + 4 := by rw [sealN_len, hn]
  have hx : xs.length = n + 4 := h.len.trans hl
  refine raw_turn p (sealN (tabF p) bs) xs (sealed_byt hb) h.byt h.len 4294967295 m k hp hp2 hm hm0 (by rw [hl]; omega) (turned_done hm h) ?_
  have hr : ∀ ys : List Int, moreN (tabF p) 0 ys = raw (tabF p) 4294967295 ys ^^^ 4294967295 := fun ys => by unfold moreN; rw [Nat.zero_xor]
  have e1 : raw (tabF p) 4294967295 (xs.take n ++ xs.drop n) = stps p 32 4294967295 := raw_sealed p _ _ (h.byt.drop n) (by rw [List.length_drop, hx]; omega) _ (by rw [← he, hr])
  have e2 : raw (tabF p) 4294967295 (bs ++ le4 (moreN (tabF p) 0 bs)) = stps p 32 4294967295 := raw_sealed p _ _ (le4_byt _) rfl _ (by rw [le_le4 _ (moreN_lt (tab_small p hp2) 0 bs (by decide)), hr])
  rw [List.take_append_drop] at e1
  rw [e1]
  exact e2.symm

def SealedN (N : Nat) (bs : List Int) (w : World) (e : Ending) (w' : World) : Prop :=
  ∃ g, e = .returned (.slice (some ⟨g, 0, none⟩) N N) ∧ w'.rowIs g 5 N (fun i => .int .u8 (bs.getD i 0)) ∧ Grow w w'
theorem seal_one (A : Option Addr) (n N cap : Nat) (cs : Array Value) (T : Nat → Nat) (p : List Int) (w : World) (hT : IsTab cs T) (hn : n = p.length) (hN : N = n + 4) (hc : A = none → cap = 0) (hl : n ≤ 200000000000000) (hb : Byt p) (hr : Nums .u8 w w.heap.size A p) :
    Calls Try.prog 15 #[.agg cs, .slice (some ⟨w.heap.size, 0, none⟩) 1 1] (w.alloc (.cells #[.slice A n cap] 28)) (SealedN N (sealN T p) w) := by
  have h := seal_any (some ⟨w.heap.size, 0, none⟩) 1 cs T [p] (w.alloc (.cells #[.slice A n cap] 28)) hT (fits_one (by omega) hb) (by rw [flat_one]; omega) (prts_lit1 w A n cap p hn hc hr)
  rw [flat_one] at h
  refine h.mono ?_
  rintro e w' ⟨g, rfl, hrow, hg⟩
  have hl' : (sealN T p).length = N := by rw [sealN_len, ← hn, hN]
  rw [hl'] at hrow ⊢
  exact ⟨g, rfl, hrow, grow_alloc hg⟩

def YesN (n : Nat) (p : List Int) (w : World) (e : Ending) (w' : World) : Prop :=
  ∃ g, e = .returned (.tuple #[.slice (some ⟨g, 0, none⟩) n n, .bool true]) ∧ w'.rowIs g 5 n (fun i => .int .u8 (p.getD i 0)) ∧ Grow w w'
theorem open_sealed (g n N : Nat) (cs : Array Value) (T : Nat → Nat) (p : List Int) (w : World) (hT : IsTab cs T) (hn : p.length = n) (hN : N = n + 4) (hl : n ≤ 100000) (hb : Byt p) (hr : w.rowIs g 5 N (fun i => .int .u8 ((sealN T p).getD i 0))) :
    Calls Try.prog 13 #[.agg cs, .slice (some ⟨g, 0, none⟩) N N] w (YesN n p w) := by
  subst hN
  have hll : (sealN T p).length = n + 4 := by rw [sealN_len, hn]
  have e1 : (sealN T p).take n = p := by rw [← hn]; exact sealed_take T p
  have e2 : (sealN T p).drop n = le4 (moreN T 0 p) := by rw [← hn]; exact sealed_drop T p
  have hrow : Nums .u8 w w.heap.size (some ⟨g, 0, none⟩) (sealN T p) := Nums.of_row (t := 5) (by rw [hll]; exact hr)
  have h := open_yes (some ⟨g, 0, none⟩) n (n + 4) cs T (sealN T p) w hT hll (by omega) (Nat.le_refl _) (sealed_byt hb) hrow (by rw [e1, e2, le_le4 _ (moreN_lt hT.2.2 0 p (by decide))])
  rw [e1] at h
  refine h.mono ?_
  rintro e w' ⟨g', rfl, hrow', hg⟩
  rw [hn] at hrow' ⊢
  exact ⟨g', rfl, hrow', hg⟩
theorem open_turned (g c n N : Nat) (cs : Array Value) (T : Nat → Nat) (xs : List Int) (w : World) (hT : IsTab cs T) (hx : xs.length = N) (hN : N = n + 4) (hl : n ≤ 100000) (hc : N ≤ c) (hb : Byt xs) (hr : Nums .u8 w w.heap.size (some ⟨g, 0, none⟩) xs)
    (hne : moreN T 0 (xs.take n) ≠ le (xs.drop n)) : Calls Try.prog 13 #[.agg cs, .slice (some ⟨g, 0, none⟩) N c] w (OpenNo w) := by
  subst hN
  exact open_no (some ⟨g, 0, none⟩) n c cs T xs w hT hx (by omega) hc hb hr hne

theorem conv_n {w : World} {A : Option Addr} {n : Nat} {xs : List Int} (cap : Nat) (h : Nums .u8 w w.heap.size A xs) (hn : xs.length = n) : (convert 28 9 (.slice A n cap)).run Try.prog w = .ok (.string (strOfNums xs)) w := by
  subst hn
  exact conv_any cap h rfl

theorem sealed_str {w wg : World} {g n N : Nat} {T : Nat → Nat} {bs : List Int} {str : ByteArray} (h : w.rowIs g 5 N (fun i => .int .u8 ((sealN T bs).getD i 0))) (hn : bs.length = n) (hN : N = n + 4) (hs : strOfNums (sealN T bs) = str) (hg : Grow w wg) :
    (convert 28 9 (.slice (some ⟨g, 0, none⟩) N N)).run Try.prog wg = .ok (.string str) wg := by
  have hl : (sealN T bs).length = N := by rw [sealN_len, hn, hN]
  rw [← hs]
  exact conv_n N ((Nums.of_row (t := 5) (by rw [hl]; exact h)).grow hg) hl

set_option maxRecDepth 10000 in
set_option maxHeartbeats 4000000 in
theorem bursts_yes (A : Option Addr) (cap n N : Nat) (bs ss : List Int) (p k m : Nat) (w : World) (hn : bs.length = n) (hN : N = n + 4) (hss : ss = sealN (tabF p) bs) (hl : n ≤ 1000) (hp : 2147483648 ≤ p) (hp2 : p < 4294967296) (hm : m < 4294967296) (hm0 : m ≠ 0) (hk : k + 32 ≤ 8 * N)
    (hc : A = none → cap = 0) (hb : Byt bs) (hr : Nums .u8 w w.heap.size A bs) : Calls Try.prog 5 #[.slice A n cap, .int .u32 p, .int .i64 k, .int .u32 m] w (Fine w) := by
  have d1 : decide ((1000 : Int) < (n : Int)) = false := by simp; omega
  have d2 : decide ((p : Int) < 2147483648) = false := by simp; omega
  have d3 : ((m : Int) == 0) = false := by rw [beq_eq_false_iff_ne]; omega
  have d4 : decide ((k : Int) < 0) = false := by simp
  have d5 : decide ((N : Int) < 4) = false := by simp; omega
  have d6 : decide (8 * (N : Int) - 32 < (k : Int)) = false := by simp; omega
  have hNl : N ≤ 1004 := by omega
  have HN := Lib.hid hn
  have HNN := Lib.hid hN
  have HSN := Lib.hid (show ss.length = N by rw [hss, sealN_len, hn, hN])
  have HSB := Lib.hid (show Byt ss by rw [hss]; exact sealed_byt hb)
  have HSS := Lib.hid hss
  have HC := Lib.hid hc
  have HR := Lib.hid hr
  have HB := Lib.hid hb
  clear hr hn hb hN hss hc
  obtain ⟨i0, hi, hz0, hz1, hz2⟩ := info_parts info5
  have hz := zero24
  go_enter Try.func5, Try.ntmps5
  go_wp2_with fail
  refine (small_any w).mono ?_
  rintro e w1 ⟨rfl, hb1⟩
  go_wp2_with fail
  refine (table_any p w1 hp2).mono ?_
  rintro e w2 ⟨cs, rfl, hT, hb2⟩
  have hs := hT.1
  have HT := Lib.hid hT
  have hg0 := heap_alloc_new w2 (.cells zs24 24)
  have hg2 := setRow_heap (w2.alloc (.cells zs24 24)) w2.heap.size zs24 cs 24 (0, 0) hg0
  have hb3 : Grow w2 ((w2.alloc (.cells zs24 24)).setRow w2.heap.size cs) := Below.trans (grow_new _ _) (below_setRow (Below.refl w2.heap.size (w2.alloc (.cells zs24 24))) (Nat.le_refl _) cs)
  have hs2 := Lib.hid (show ((w2.alloc (.cells zs24 24)).setRow w2.heap.size cs).heap.size = w2.heap.size + 1 by simp)
  have hs24 : (Try.prog.info? 24).map (·.size) = some cs.size := by rw [hs]; exact size24
  have hz24 : zs24.size = cs.size := by rw [hs]; exact zs_size
  clear hT
  go_wp2_with (first | refine wpList_store_row rfl 24 _ _ rfl w2.heap.size cs rfl rfl 24 zs24 hg0 hs24 hz24 (tab_one HT.out) ?_ | refine wpList_tab rfl _ rfl w2.heap.size rfl cs hg2 hs ?_)
  rw [← hs2.out]
  generalize (w2.alloc (.cells zs24 24)).setRow w2.heap.size cs = w3 at *
  have hlt3 : w2.heap.size < w3.heap.size := by have := hs2.out; omega
  have HG3 := Lib.hid hg2
  have hb13 : Grow w w3 := Grow.trans (Grow.trans hb1 hb2) hb3
  have HR3 := Lib.hid (HR.out.grow hb13)
  clear hg0 hs24 hz24 hz hg2 hs2 hb1 hb2 hb3
  refine (seal_one A n N cap cs (tabF p) bs w3 HT.out HN.out.symm HNN.out HC.out (by omega) HB.out HR3.out).mono ?_
  rw [← HSS.out]
  rintro e w5 ⟨gs, rfl, hrow5, hb5⟩
  have hg5 := Lib.hid ((hb5.block w2.heap.size hlt3).trans HG3.out)
  have hlt5 : w2.heap.size < w5.heap.size := Nat.lt_of_lt_of_le hlt3 hb5.size
  have HR5 := Lib.hid hrow5
  have HSN5 := Lib.hid (show Nums .u8 w5 w5.heap.size (some ⟨gs, 0, none⟩) ss from Nums.of_row (t := 5) (by rw [HSN.out]; exact hrow5))
  have HE := Lib.hid (own_empty w5)
  have HNW := Lib.hid (nums_news (HSN5.out.below (grow_new w5 (.cells #[] 5))))
  clear hrow5
  go_wp2_with (at_builtin; refine wpList_append_own _ rfl _ _ 28 rfl w5.heap.size 5 i0 (.int .u8 0) 1 1 Try.underlying28 hi hz0 hz1 hz2 rfl (by decide) _ _ _ rfl HE.out ⟨gs, 0, none⟩ N N (u8s ss) rfl (by rw [u8s_len, HSN.out]; omega) HNW.out (u8s_one ss) (by unfold maxLen; omega) (by omega) (by simp) ?_; intro v w6 hown hgrow hnil)
  have hb2 : Below w5.heap.size w5 w6 := Below.grown (grow_new w5 _) hgrow (by simp) (fun k hk => by cases hk; exact Nat.le_refl _)
  obtain ⟨g, c, rfl⟩ := own_some hown (fun h => by have := (hnil.1 h).1; cases this)
  rw [Nat.zero_add] at hown ⊢
  have HOR := Lib.hid (own_rowF HSN.out.symm hown)
  clear hown hgrow hnil
  obtain ⟨hg1, hnc, R, hrow0⟩ := HOR.out
  have HROW := Lib.hid hrow0
  clear hrow0
  go_wp2
  clear d1 d2 d3 d4 d5 d6
  go_loopw [13] (fun v wr => ∃ i : Nat, i ≤ 32 ∧ v = .int .i64 i ∧ ∃ xs, Turned ss m k i xs ∧ wr.rowIs g 5 c (rowF N xs R) ∧ Below w5.heap.size w5 wr)
    (fun v _ => 32 - (intOf v).toNat)
  case atStart => exact ⟨0, Nat.zero_le _, rfl, ss, turned_zero HSB.out m k, HROW.out, hb2⟩
  case round =>
    obtain ⟨i, hi32, rfl, xs, htur, hrow, hbel⟩ := hrel
    have HTU := Lib.hid htur
    have HRW := Lib.hid hrow
    clear htur hrow hb2
    by_cases hlt : i < 32
    · have hand := bit_and m i hm
      by_cases hbit : m / 2 ^ i % 2 = 1
      · rw [hbit] at hand
        have hbt : (bits .and .u32 ((m : Int) / 2 ^ i) 1 == 1) = true := by rw [hand]; rfl
        obtain ⟨q, hq⟩ : ∃ q : Nat, (k + i) / 8 = q := ⟨_, rfl⟩
        obtain ⟨r, hr8⟩ : ∃ r : Nat, (k + i) % 8 = r := ⟨_, rfl⟩
        have hq' : ((k : Int) + i) / 8 = q := by omega
        have hr' : ((k : Int) + i) % 8 = r := by omega
        have hqn : q < N := by omega
        have hr7 : r ≤ 7 := by omega
        have hxl : xs.length = N := by rw [HTU.out.len, HSN.out]
        have hcq := HRW.out.cell (i := q) (by omega)
        have hfq := HRW.out.frozen q
        have hx := HTU.out.byt.at_ q
        rw [show rowF N xs R q = .int .u8 (xs.getD q 0) by simp [rowF, hqn]] at hcq
        have hxor := turn_byte (xs.getD q 0) r hx hr7
        have HXL := Lib.hid hxl
        have HBI := Lib.hid hbit
        have HQ := Lib.hid hq
        have HR8 := Lib.hid hr8
        have HXO := Lib.hid hxor
        have hsum : IntKind.i64.wrap ((k : Int) + i) = (k : Int) + i := IntWalk.i64_in _ (by omega)
        clear hand hxl hbit hq hr8 hxor hx
        obtain ⟨x, hxq⟩ : ∃ x, xs.getD q 0 = x := ⟨_, rfl⟩
        rw [hxq] at hcq HXO
        have HXQ := Lib.hid hxq
        clear hxq
        go_wp2
        go_region
        go_wp2
        go_roundw
        case rel =>
          refine ⟨i + 1, by omega, by go_num, _, turned_on HTU.out HBI.out HQ.out HR8.out (by rw [HSN.out]; omega), ?_, (hbel.setCell hg1 _).drew⟩
          rw [HXQ.out]
          have := (rowF_set HRW.out hqn HXL.out (((x.toNat ^^^ 2 ^ r : Nat) : Int))).drew
          rw [← HXO.out] at this
          rw [← HXO.out]
          exact this
        case measure => simp [intOf]; omega
      · have h0 : m / 2 ^ i % 2 = 0 := by omega
        rw [h0] at hand
        have hbt : (bits .and .u32 ((m : Int) / 2 ^ i) 1 == 1) = false := by rw [hand]; rfl
        have HBI := Lib.hid hbit
        clear hand hbit h0
        go_wp2
        go_roundw
        case rel => exact ⟨i + 1, by omega, by go_num, xs, turned_off HTU.out HBI.out, HRW.out, hbel⟩
        case measure => simp [intOf]; omega
    · have e : i = 32 := by omega
      subst e
      have hne := Lib.hid (turned_sealed p n bs xs HB.out HN.out m k hp hp2 hm hm0 (by rw [← HNN.out]; exact hk) (by rw [← HSS.out]; exact HTU.out))
      have HXN := Lib.hid (rowF_nums HRW.out (by rw [HTU.out.len, HSN.out]) hnc)
      have hgr := (hbel.block w2.heap.size hlt5).trans hg5.out
      have hltr : w2.heap.size < wr.heap.size := Nat.lt_of_lt_of_le hlt5 hbel.size
      go_wp2_with (refine wpList_tab rfl _ rfl w2.heap.size rfl cs hgr hs ?_)
      refine (open_turned g c n N cs (tabF p) xs wr HT.out (by rw [HTU.out.len, HSN.out]) HNN.out (by omega) hnc HTU.out.byt HXN.out hne.out).mono ?_
      rintro e w7 ⟨rfl, hb7⟩
      have hg7 := (hb7.block w2.heap.size hltr).trans hgr
      have hb57 : Below w5.heap.size w5 w7 := Below.trans hbel (Below.mono hb7 hbel.size)
      have HR7 := Lib.hid (rowIs_below HR5.out hb57 HR5.out.lt)
      clear hgr
      go_wp2_with (refine wpList_tab rfl _ rfl w2.heap.size rfl cs hg7 hs ?_)
      refine (open_sealed gs n N cs (tabF p) bs w7 HT.out HN.out HNN.out (by omega) HB.out (by rw [← HSS.out]; exact HR7.out)).mono ?_
      rintro e w8 ⟨gy, rfl, hrow8, hb8⟩
      have hb58 : Grow w5 w8 := Below.trans hb57 (Below.mono hb8 hb57.size)
      have hall : Grow w w8 := (hb13.trans hb5).trans hb58
      have hcy := conv_n n (show Nums .u8 w8 w8.heap.size (some ⟨gy, 0, none⟩) bs from Nums.of_row (t := 5) (by rw [HN.out]; exact hrow8)) HN.out
      have hcb := conv_n cap (HR.out.grow hall) HN.out
      clear hrow8 hg7
      generalize strOfNums bs = str at *
      go_wp2
      go_ret
      exact ⟨rfl, hall⟩
end Go.Proofs.Ytbpdjohbbhblcaa
