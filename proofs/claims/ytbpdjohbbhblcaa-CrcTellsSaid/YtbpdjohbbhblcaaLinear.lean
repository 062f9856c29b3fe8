/-
  The law CrcLinear, walked: it answers true, called with any polynomial and any three rows, and turns nothing that was there.
-/
import Derived.Test.YtbpdjohbbhblcaaUnlikeAll
namespace Go.Proofs.Ytbpdjohbbhblcaa
open Go.RowKit
set_option linter.unusedSimpArgs false

def x3 (a b c : List Int) (i : Nat) : Nat := (a.getD i 0).toNat ^^^ (b.getD i 0).toNat ^^^ (c.getD i 0).toNat
def xs3 (a b c : List Int) (k : Nat) : List Int := (List.range k).map fun i => ((x3 a b c i : Nat) : Int)
theorem xs3_len (a b c : List Int) (k : Nat) : (xs3 a b c k).length = k := by simp [xs3]
theorem xs3_succ (a b c : List Int) (k : Nat) : xs3 a b c (k + 1) = xs3 a b c k ++ [((x3 a b c k : Nat) : Int)] := by
  unfold xs3
  rw [List.range_succ, List.map_append]
  rfl
theorem x3_lt {a b c : List Int} (ha : Byt a) (hb : Byt b) (hc : Byt c) (i : Nat) : x3 a b c i < 256 := by
  have h1 := ha.at_ i
  have h2 := hb.at_ i
  have h3 := hc.at_ i
  have h4 : (a.getD i 0).toNat ^^^ (b.getD i 0).toNat < 2 ^ 8 := Nat.xor_lt_two_pow (by omega) (by omega)
  exact Nat.xor_lt_two_pow (n := 8) h4 (by omega)
theorem xs3_byt {a b c : List Int} (ha : Byt a) (hb : Byt b) (hc : Byt c) (k : Nat) : Byt (xs3 a b c k) := by
  intro x hx
  simp only [xs3, List.mem_map] at hx
  obtain ⟨i, _, rfl⟩ := hx
  have := x3_lt ha hb hc i
  omega

theorem raw_x3 (p : Nat) {a b c : List Int} (ha : Byt a) (hb : Byt b) (hc : Byt c) (k : Nat) (h1 : k ≤ a.length) (h2 : k ≤ b.length) (h3 : k ≤ c.length) (s : Nat) :
    raw (tabF p) (s ^^^ s ^^^ s) (xs3 a b c k) = raw (tabF p) s (a.take k) ^^^ raw (tabF p) s (b.take k) ^^^ raw (tabF p) s (c.take k) := by
  induction k with
  | zero => simp [xs3, raw]
  | succ k ih =>
    have i1 := ha.at_ k
    have i2 := hb.at_ k
    have i3 := hc.at_ k
    rw [xs3_succ, raw_app, ih (by omega) (by omega) (by omega), take_one a k (by omega), take_one b k (by omega), take_one c k (by omega), raw_app, raw_app, raw_app]
    simp only [raw_cons, raw_nil, Int.toNat_natCast]
    exact byt_lin p _ _ _ _ _ _ (by omega) (by omega) (by omega) (x3_lt ha hb hc k)

theorem more_x3 (p n : Nat) {a b c : List Int} (ha : Byt a) (hb : Byt b) (hc : Byt c) (h1 : a.length = n) (h2 : b.length = n) (h3 : c.length = n) :
    moreN (tabF p) 0 (xs3 a b c n) = moreN (tabF p) 0 a ^^^ moreN (tabF p) 0 b ^^^ moreN (tabF p) 0 c := by
  have h := raw_x3 p ha hb hc n (by omega) (by omega) (by omega) 4294967295
  rw [List.take_of_length_le (by omega), List.take_of_length_le (by omega), List.take_of_length_le (by omega), Nat.xor_self, Nat.zero_xor] at h
  unfold moreN
  rw [Nat.zero_xor, h]
  generalize raw (tabF p) 4294967295 a = x
  generalize raw (tabF p) 4294967295 b = y
  generalize raw (tabF p) 4294967295 c = z
  apply Nat.eq_of_testBit_eq
  intro i
  simp only [Nat.testBit_xor]
  cases x.testBit i <;> cases y.testBit i <;> cases z.testBit i <;> cases (4294967295 : Nat).testBit i <;> rfl

theorem own_nums {w : World} {base : Nat} {v : Value} {n : Nat} {xs : List Int} (h : w.ownsRow base 5 1 v n (u8s xs)) :
    ∃ A cap, v = .slice A n cap ∧ (A = none → cap = 0) ∧ Nums .u8 w w.heap.size A xs ∧ xs.length = n := by
  have hlen : xs.length = n := by have := h.1; rw [u8s_len] at this; omega
  rcases h.2 with ⟨rfl, hx⟩ | ⟨g, cap, cur, rfl, hbg, hgg, hnc, _, hsz, htake⟩
  · subst hx
    have hx' : xs = [] := List.eq_nil_of_length_eq_zero hlen
    subst hx'
    exact ⟨none, 0, rfl, fun _ => rfl, Nums.none_, rfl⟩
  · refine ⟨some ⟨g, 0, none⟩, cap, rfl, by simp, fun hp => ⟨g, 0, rfl, (Array.getElem?_eq_some_iff.1 hgg).1, fun i hi => ?_⟩, hlen⟩
    rw [Nat.zero_add, cell_of_row w g i cur 5 (0, 0) hgg]
    have h1 : (cur.toList.take (n * 1))[i]? = (u8s xs)[i]? := by rw [htake]
    rw [List.getElem?_take, if_pos (by omega), Array.getElem?_toList] at h1
    rw [h1]
    simp [u8s, hi]

theorem sum_v1 (A : Option Addr) (cs : Array Value) (T : Nat → Nat) (p : List Int) (w : World) (M : Nat) (hT : IsTab cs T) (hl : p.length ≤ 1000000000000000000) (hb : Byt p) (h : Prts w w.heap.size A [p]) (hv : moreN T 0 p = M) :
    Calls Try.prog 16 #[.agg cs, .slice A 1 1] w fun e w' => e = .returned (.int .u32 (M : Nat)) ∧ Grow w w' := by
  subst hv
  exact sum_p1 A cs T p w hT hl hb h

theorem own_any {w w' : World} {base n : Nat} {v : Value} {xs : List Value} (h : w.ownsRow base 5 1 v n xs) (hg : Grow w w') : w'.ownsRow base 5 1 v n xs := by
  refine ⟨h.1, ?_⟩
  rcases h.2 with h0 | ⟨g', cap', cur, hv, hbg, hgg, rest⟩
  · exact .inl h0
  · have hlt : g' < w.heap.size := (Array.getElem?_eq_some_iff.1 hgg).1
    exact .inr ⟨g', cap', cur, hv, hbg, (hg.block g' hlt).trans hgg, rest⟩

set_option maxRecDepth 10000 in
set_option maxHeartbeats 8000000 in
theorem linear_yes (A1 A2 A3 : Option Addr) (c1 c2 c3 n : Nat) (a b c : List Int) (p : Nat) (w : World) (h1 : a.length = n) (h2 : b.length = n) (h3 : c.length = n) (hl : n ≤ 300) (hp2 : p < 4294967296)
    (e1 : A1 = none → c1 = 0) (e2 : A2 = none → c2 = 0) (e3 : A3 = none → c3 = 0) (ba : Byt a) (bb : Byt b) (bc : Byt c)
    (r1 : Nums .u8 w w.heap.size A1 a) (r2 : Nums .u8 w w.heap.size A2 b) (r3 : Nums .u8 w w.heap.size A3 c) :
    Calls Try.prog 7 #[.int .u32 p, .slice A1 n c1, .slice A2 n c2, .slice A3 n c3] w (Fine w) := by
  have d1 : decide ((300 : Int) < (n : Int)) = false := by simp; omega
  have d2 : ((n : Int) != (n : Int)) = false := by simp
  have H1 := Lib.hid h1
  have H2 := Lib.hid h2
  have H3 := Lib.hid h3
  have E1 := Lib.hid e1
  have E2 := Lib.hid e2
  have E3 := Lib.hid e3
  have BA := Lib.hid ba
  have BB := Lib.hid bb
  have BC := Lib.hid bc
  have R1 := Lib.hid r1
  have R2 := Lib.hid r2
  have R3 := Lib.hid r3
  clear h1 h2 h3 e1 e2 e3 ba bb bc r1 r2 r3
  obtain ⟨i0, hi, hz0, hz1, hz2⟩ := info_parts info5
  have hz := zero24
  go_enter Try.func7, Try.ntmps7
  go_wp2_with fail
  refine (small_any w).mono ?_
  rintro e w1 ⟨rfl, hb1⟩
  go_wp2_with fail
  refine (table_any p w1 hp2).mono ?_
  rintro e w2 ⟨cs, rfl, hT, hb2⟩
  have hs := hT.1
  have HT := Lib.hid hT
  have hg0 := heap_alloc_new w2 (.cells zs24 24)
  have hg2 := setRow_heap (w2.alloc (.cells zs24 24)) w2.heap.size zs24 cs 24 (0, 0) hg0
  have hb3 : Grow w2 ((w2.alloc (.cells zs24 24)).setRow w2.heap.size cs) := Below.trans (grow_new _ _) (below_setRow (Below.refl w2.heap.size (w2.alloc (.cells zs24 24))) (Nat.le_refl _) cs)
  have hlt3 : w2.heap.size < ((w2.alloc (.cells zs24 24)).setRow w2.heap.size cs).heap.size := by simp
  have hs24 : (Try.prog.info? 24).map (·.size) = some cs.size := by rw [hs]; exact size24
  have hz24 : zs24.size = cs.size := by rw [hs]; exact zs_size
  clear hT
  go_wp2_with (refine wpList_store_row rfl 24 _ _ rfl w2.heap.size cs rfl rfl 24 zs24 hg0 hs24 hz24 (tab_one HT.out) ?_)
  generalize (w2.alloc (.cells zs24 24)).setRow w2.heap.size cs = w3 at *
  have HG3 := Lib.hid hg2
  have hb13 : Grow w w3 := Grow.trans (Grow.trans hb1 hb2) hb3
  have P1 := Lib.hid (R1.out.grow hb13)
  have P2 := Lib.hid (R2.out.grow hb13)
  have P3 := Lib.hid (R3.out.grow hb13)
  clear hg0 hs24 hz24 hz hg2 hb1 hb2 hb3 d1 d2
  go_loopw [11, 12] (fun v i wr => ∃ k : Nat, k ≤ n ∧ i = .int .i64 k ∧ wr.ownsRow w3.heap.size 5 1 v k (u8s (xs3 a b c k)) ∧ Below w3.heap.size w3 wr)
    (fun _ i _ => n - (intOf i).toNat)
  case atStart => exact ⟨0, Nat.zero_le _, rfl, by simpa [u8s, xs3] using World.ownsRow_nil _ _ _ _, Below.refl _ _⟩
  case round =>
    obtain ⟨k, hk, rfl, hown, hbel⟩ := hrel
    have HO := Lib.hid hown
    clear hown
    by_cases hlt : k < n
    · obtain ⟨a1, o1, rfl, l1, q1⟩ := P1.out (by rw [H1.out]; omega)
      obtain ⟨a2, o2, rfl, l2, q2⟩ := P2.out (by rw [H2.out]; omega)
      obtain ⟨a3, o3, rfl, l3, q3⟩ := P3.out (by rw [H3.out]; omega)
      have y1 := BA.out.at_ k
      have y2 := BB.out.at_ k
      have y3 := BC.out.at_ k
      have t1 := q1 k (by rw [H1.out]; exact hlt)
      have t2 := q2 k (by rw [H2.out]; exact hlt)
      have t3 := q3 k (by rw [H3.out]; exact hlt)
      have z1 := u8_xor (a.getD k 0) (b.getD k 0) y1.1 y1.2 y2.1 y2.2
      have z2 : bits .xor .u8 (((a.getD k 0).toNat ^^^ (b.getD k 0).toNat : Nat) : Int) (c.getD k 0) = ((x3 a b c k : Nat) : Int) := by
        have h4 : (a.getD k 0).toNat ^^^ (b.getD k 0).toNat < 2 ^ 8 := Nat.xor_lt_two_pow (by omega) (by omega)
        rw [u8_xor _ _ (by omega) (by omega) y3.1 y3.2, Int.toNat_natCast]
        rfl
      have hnx := Lib.hid (xs3_succ a b c k)
      generalize x3 a b c k = x at *
      generalize (a.getD k 0).toNat ^^^ (b.getD k 0).toNat = xy at *
      generalize a.getD k 0 = va at *
      generalize b.getD k 0 = vb at *
      generalize c.getD k 0 = vc at *
      clear q1 q2 q3 y1 y2 y3
      go_wp2
      refine wp_region_R ((Below w3.heap.size)) (n := 18) rfl (by kernel_rfl) ?_
      intro W0 hW0e hW0
      have hbW : Below w3.heap.size w3 W0 := Below.trans hbel (Below.mono hW0 hbel.size)
      have f1 : ∀ wg, Below w3.heap.size W0 wg → wg.cell? ⟨a1, o1 + k, none⟩ = some (.int .u8 va) := fun wg hg => ((hbW.trans hg).cell l1).trans t1
      have f2 : ∀ wg, Below w3.heap.size W0 wg → wg.cell? ⟨a2, o2 + k, none⟩ = some (.int .u8 vb) := fun wg hg => ((hbW.trans hg).cell l2).trans t2
      have f3 : ∀ wg, Below w3.heap.size W0 wg → wg.cell? ⟨a3, o3 + k, none⟩ = some (.int .u8 vc) := fun wg hg => ((hbW.trans hg).cell l3).trans t3
      have HOW := Lib.hid ((own_any HO.out hW0).alloc (.cells #[.int .u8 (x : Int)] 5))
      clear t1 t2 t3
      clear hW0e
      refine wpR_take (belowOrd w3.heap.size) (i := 0) (v := ?vf1) rfl (by kernel_rfl) (by kernel_rfl) (by kernel_rfl) (fun _ _ _ h => h) (by rfl) ?hf1 ?rf1
      case hf1 => (intro wg hSw; go_simp <;> with_reducible rfl)
      simp only [Act.put, List.setIfInBounds_toArray, List.set_cons_zero, List.set_cons_succ]
      refine wpR_take (belowOrd w3.heap.size) (i := 1) (v := ?vf2) rfl (by kernel_rfl) (by kernel_rfl) (by kernel_rfl) (fun _ _ _ h => h) (by rfl) ?hf2 ?rf2
      case hf2 => (intro wg hSw; go_simp <;> with_reducible rfl)
      simp only [Act.put, List.setIfInBounds_toArray, List.set_cons_zero, List.set_cons_succ]
      refine wpR_take (belowOrd w3.heap.size) (i := 2) (v := ?vf3) rfl (by kernel_rfl) (by kernel_rfl) (by kernel_rfl) (fun _ _ _ h => h) (by rfl) ?hf3 ?rf3
      case hf3 => (intro wg hSw; go_simp <;> with_reducible rfl)
      simp only [Act.put, List.setIfInBounds_toArray, List.set_cons_zero, List.set_cons_succ]
      refine wpR_take (belowOrd w3.heap.size) (i := 3) (v := ?vf4) rfl (by kernel_rfl) (by kernel_rfl) (by kernel_rfl) (fun _ _ _ h => h) (by rfl) ?hf4 ?rf4
      case hf4 => (intro wg hSw; go_simp <;> with_reducible rfl)
      simp only [Act.put, List.setIfInBounds_toArray, List.set_cons_zero, List.set_cons_succ]
      refine wpR_take (belowOrd w3.heap.size) (i := 4) (v := ?vf5) rfl (by kernel_rfl) (by kernel_rfl) (by kernel_rfl) (fun _ _ _ h => h) (by rfl) ?hf5 ?rf5
      case hf5 => (intro wg hSw; go_simp <;> with_reducible rfl)
      simp only [Act.put, List.setIfInBounds_toArray, List.set_cons_zero, List.set_cons_succ]
      refine wpR_take (belowOrd w3.heap.size) (i := 5) (v := ?vf6) rfl (by kernel_rfl) (by kernel_rfl) (by kernel_rfl) (fun _ _ _ h => h) (by rfl) ?hf6 ?rf6
      case hf6 => (intro wg hSw; go_simp <;> with_reducible rfl)
      simp only [Act.put, List.setIfInBounds_toArray, List.set_cons_zero, List.set_cons_succ]
      refine wpR_take (belowOrd w3.heap.size) (i := 6) (v := ?vf7) rfl (by kernel_rfl) (by kernel_rfl) (by kernel_rfl) (fun _ _ _ h => h) (by rfl) ?hf7 ?rf7
      case hf7 => (intro wg hSw; go_simp <;> with_reducible rfl)
      simp only [Act.put, List.setIfInBounds_toArray, List.set_cons_zero, List.set_cons_succ]
      refine wpR_take (belowOrd w3.heap.size) (i := 7) (v := ?vf8) rfl (by kernel_rfl) (by kernel_rfl) (by kernel_rfl) (fun _ _ _ h => h) (by rfl) ?hf8 ?rf8
      case hf8 => (intro wg hSw; go_simp <;> with_reducible rfl)
      simp only [Act.put, List.setIfInBounds_toArray, List.set_cons_zero, List.set_cons_succ]
      refine wpR_take (belowOrd w3.heap.size) (i := 8) (v := ?vf9) rfl (by kernel_rfl) (by kernel_rfl) (by kernel_rfl) (fun _ _ _ h => h) (by rfl) ?hf9 ?rf9
      case hf9 => (intro wg hSw; go_simp <;> with_reducible rfl)
      simp only [Act.put, List.setIfInBounds_toArray, List.set_cons_zero, List.set_cons_succ]
      refine wpR_take (belowOrd w3.heap.size) (i := 9) (v := ?vf10) rfl (by kernel_rfl) (by kernel_rfl) (by kernel_rfl) (fun _ _ _ h => h) (by rfl) ?hf10 ?rf10
      case hf10 => (intro wg hSw; go_simp <;> with_reducible rfl)
      simp only [Act.put, List.setIfInBounds_toArray, List.set_cons_zero, List.set_cons_succ]
      refine wpR_take (belowOrd w3.heap.size) (i := 10) (v := ?vf11) rfl (by kernel_rfl) (by kernel_rfl) (by kernel_rfl) (fun _ _ _ h => h) (by rfl) ?hf11 ?rf11
      case hf11 => (intro wg hSw; go_simp <;> with_reducible rfl)
      simp only [Act.put, List.setIfInBounds_toArray, List.set_cons_zero, List.set_cons_succ]
      refine wpR_take (belowOrd w3.heap.size) (i := 11) (v := ?vf12) rfl (by kernel_rfl) (by kernel_rfl) (by kernel_rfl) (fun _ _ _ h => h) (by rfl) ?hf12 ?rf12
      case hf12 => (intro wg hSw; go_simp <;> with_reducible rfl)
      simp only [Act.put, List.setIfInBounds_toArray, List.set_cons_zero, List.set_cons_succ]
      refine wpR_take (belowOrd w3.heap.size) (i := 12) (v := ?vf13) rfl (by kernel_rfl) (by kernel_rfl) (by kernel_rfl) (fun _ _ _ h => h) (by rfl) ?hf13 ?rf13
      case hf13 => (intro wg hSw; go_simp <;> with_reducible rfl)
      simp only [Act.put, List.setIfInBounds_toArray, List.set_cons_zero, List.set_cons_succ]
      refine wpR_take (belowOrd w3.heap.size) (i := 13) (v := ?vf14) rfl (by kernel_rfl) (by kernel_rfl) (by kernel_rfl) (fun _ _ _ h => h) (by rfl) ?hf14 ?rf14
      case hf14 => (intro wg hSw; go_simp <;> with_reducible rfl)
      simp only [Act.put, List.setIfInBounds_toArray, List.set_cons_zero, List.set_cons_succ]
      refine wpR_take (belowOrd w3.heap.size) (i := 14) (v := ?vf15) rfl (by kernel_rfl) (by kernel_rfl) (by kernel_rfl) (fun _ _ _ h => h) (by rfl) ?hf15 ?rf15
      case hf15 => (intro wg hSw; go_simp <;> with_reducible rfl)
      simp only [Act.put, List.setIfInBounds_toArray, List.set_cons_zero, List.set_cons_succ]
      refine wpR_one (i := 15) (by kernel_rfl) ?_
      refine wpR_op (i := 15) rfl (by rfl) (fun K hK => ?_)
      go_simp
      refine hK.out _ _ (Below.alloc (Below.refl _ _) hbW.size _) ?_
      clear hK K
      try simp only [Act.put, List.setIfInBounds_toArray, List.set_cons_zero, List.set_cons_succ]
      refine wpR_one (i := 16) (by kernel_rfl) ?_
      refine wpR_op (i := 16) rfl (by rfl) (fun K hK => ?_)
      refine wp_append_own _ _ _ 28 rfl w3.heap.size 5 i0 (.int .u8 0) 1 1 Try.underlying28 hi hz0 hz1 hz2 rfl (by decide) _ _ _ rfl HOW.out ⟨W0.heap.size, 0, none⟩ 1 1 [.int .u8 (x : Int)] rfl rfl (lit_news _ _ _) (by intro u hu; simp at hu; subst hu; rfl) (by unfold maxLen; omega) (by omega) (by have := hbW.size; simp; omega) ?_
      intro v' w5 hown5 hgrow5 _
      have hb5 : Below w3.heap.size (W0.alloc (.cells #[.int .u8 (x : Int)] 5)) w5 := Below.grown (Below.refl _ _) hgrow5 (by have := hbW.size; simp; omega) (fun g hg => (HOW.out.lt g hg).1)
      have hall5 : Below w3.heap.size w3 w5 := Below.trans (Below.trans hbW (Below.alloc (Below.refl _ _) hbW.size _)) hb5
      have HO5 := Lib.hid hown5
      clear hown5 hgrow5
      refine hK.out _ _ hb5 ?_
      clear hK K
      try simp only [Act.put, List.setIfInBounds_toArray, List.set_cons_zero, List.set_cons_succ]
      refine wpR_take (belowOrd w3.heap.size) (i := 17) (v := ?vf16) rfl (by kernel_rfl) (by kernel_rfl) (by kernel_rfl) (fun _ _ _ h => h) (by rfl) ?hf16 ?rf16
      case hf16 => (intro wg hSw; go_simp <;> with_reducible rfl)
      simp only [Act.put, List.setIfInBounds_toArray, List.set_cons_zero, List.set_cons_succ]
      refine wpR_done (by kernel_rfl) ?_
      clear f1 f2 f3
      go_wp2
      go_roundw
      case rel => exact ⟨k + 1, by omega, by go_num, by rw [hnx.out, u8s_app]; exact HO5.out, hall5⟩
      case measure => simp [intOf]; omega
    · have e : n = k := by omega
      subst e
      obtain ⟨Ad, cd, rfl, ed, Nd, ld⟩ := own_nums HO.out
      have hlin := more_x3 p n BA.out BB.out BC.out H1.out H2.out H3.out
      have hbd := Lib.hid (xs3_byt BA.out BB.out BC.out n)
      have hla := moreN_lt HT.out.2.2 0 a (by decide)
      have hlb := moreN_lt HT.out.2.2 0 b (by decide)
      have hlc := moreN_lt HT.out.2.2 0 c (by decide)
      generalize xs3 a b c n = d at *
      obtain ⟨MA, hMA⟩ : ∃ M, moreN (tabF p) 0 a = M := ⟨_, rfl⟩
      obtain ⟨MB, hMB⟩ : ∃ M, moreN (tabF p) 0 b = M := ⟨_, rfl⟩
      obtain ⟨MC, hMC⟩ : ∃ M, moreN (tabF p) 0 c = M := ⟨_, rfl⟩
      obtain ⟨MD, hMD⟩ : ∃ M, moreN (tabF p) 0 d = M := ⟨_, rfl⟩
      rw [hMA, hMB, hMC, hMD] at hlin
      rw [hMA] at hla
      rw [hMB] at hlb
      rw [hMC] at hlc
      have hx1 := u32_xor_nat MA MB hla hlb
      have hab : MA ^^^ MB < 4294967296 := Nat.xor_lt_two_pow (n := 32) hla hlb
      have hx2 := u32_xor_nat (MA ^^^ MB) MC hab hlc
      rw [← hlin] at hx2
      have heq : ((MD : Int) == (MD : Int)) = true := by simp
      have HMA := Lib.hid hMA
      have HMB := Lib.hid hMB
      have HMC := Lib.hid hMC
      have HMD := Lib.hid hMD
      have HND := Lib.hid Nd
      have HED := Lib.hid ed
      have HLD := Lib.hid ld
      have hgr := (hbel.block w2.heap.size hlt3).trans HG3.out
      have hltr : w2.heap.size < wr.heap.size := Nat.lt_of_lt_of_le hlt3 hbel.size
      have HGR := Lib.hid hgr
      have Q1 := Lib.hid ((P1.out.below hbel).more hbel.size)
      have Q2 := Lib.hid ((P2.out.below hbel).more hbel.size)
      have Q3 := Lib.hid ((P3.out.below hbel).more hbel.size)
      clear hMA hMB hMC hMD hlin hla hlb hlc hab Nd ed ld hgr hlt hk
      generalize MA ^^^ MB = MAB at *
      go_wp2
      refine wp_region_R Grow (n := 23) rfl (by kernel_rfl) ?_
      intro W0 hW0e hW0
      have htb : ∀ wg, Grow W0 wg → wg.heap[w2.heap.size]? = some (.cells cs 24 (0, 0)) := fun wg hg => ((hW0.trans hg).block w2.heap.size hltr).trans HGR.out
      have V1 := Lib.hid (Q1.out.grow hW0)
      have V2 := Lib.hid (Q2.out.grow hW0)
      have V3 := Lib.hid (Q3.out.grow hW0)
      have VD := Lib.hid (HND.out.grow hW0)
      have HFIN := Lib.hid ((Grow.trans hb13 hbel).trans hW0)
      clear hW0e
      refine wpR_take growOrd (i := 0) (v := ?vf17) rfl (by kernel_rfl) (by kernel_rfl) (by kernel_rfl) (fun _ _ _ h => h) (by rfl) ?hf17 ?rf17
      case hf17 => (intro wg hSw; go_simp <;> with_reducible rfl)
      simp only [Act.put, List.setIfInBounds_toArray, List.set_cons_zero, List.set_cons_succ]
      refine wpR_take growOrd (i := 1) (v := ?vf18) rfl (by kernel_rfl) (by kernel_rfl) (by kernel_rfl) (fun _ _ _ h => h) (by rfl) ?hf18 ?rf18
      case hf18 => (intro wg hSw; go_simp <;> with_reducible rfl)
      simp only [Act.put, List.setIfInBounds_toArray, List.set_cons_zero, List.set_cons_succ]
      refine wpR_take growOrd (i := 2) (v := Value.agg cs) rfl (by kernel_rfl) (by kernel_rfl) (by kernel_rfl) (fun _ _ _ h => h) (by rfl) ?hf19 ?rf19
      case hf19 => exact fun wg hSw => exec_tab rfl rfl (htb wg hSw) hs
      simp only [Act.put, List.setIfInBounds_toArray, List.set_cons_zero, List.set_cons_succ]
      refine wpR_take growOrd (i := 3) (v := ?vf20) rfl (by kernel_rfl) (by kernel_rfl) (by kernel_rfl) (fun _ _ _ h => h) (by rfl) ?hf20 ?rf20
      case hf20 => (intro wg hSw; go_simp <;> with_reducible rfl)
      simp only [Act.put, List.setIfInBounds_toArray, List.set_cons_zero, List.set_cons_succ]
      refine wpR_take growOrd (i := 6) (v := Value.agg cs) rfl (by kernel_rfl) (by kernel_rfl) (by kernel_rfl) (fun _ _ _ h => h) (by rfl) ?hf21 ?rf21
      case hf21 => exact fun wg hSw => exec_tab rfl rfl (htb wg hSw) hs
      simp only [Act.put, List.setIfInBounds_toArray, List.set_cons_zero, List.set_cons_succ]
      refine wpR_take growOrd (i := 7) (v := ?vf22) rfl (by kernel_rfl) (by kernel_rfl) (by kernel_rfl) (fun _ _ _ h => h) (by rfl) ?hf22 ?rf22
      case hf22 => (intro wg hSw; go_simp <;> with_reducible rfl)
      simp only [Act.put, List.setIfInBounds_toArray, List.set_cons_zero, List.set_cons_succ]
      refine wpR_take growOrd (i := 10) (v := Value.agg cs) rfl (by kernel_rfl) (by kernel_rfl) (by kernel_rfl) (fun _ _ _ h => h) (by rfl) ?hf23 ?rf23
      case hf23 => exact fun wg hSw => exec_tab rfl rfl (htb wg hSw) hs
      simp only [Act.put, List.setIfInBounds_toArray, List.set_cons_zero, List.set_cons_succ]
      refine wpR_take growOrd (i := 11) (v := ?vf24) rfl (by kernel_rfl) (by kernel_rfl) (by kernel_rfl) (fun _ _ _ h => h) (by rfl) ?hf24 ?rf24
      case hf24 => (intro wg hSw; go_simp <;> with_reducible rfl)
      simp only [Act.put, List.setIfInBounds_toArray, List.set_cons_zero, List.set_cons_succ]
      refine wpR_take growOrd (i := 15) (v := Value.agg cs) rfl (by kernel_rfl) (by kernel_rfl) (by kernel_rfl) (fun _ _ _ h => h) (by rfl) ?hf25 ?rf25
      case hf25 => exact fun wg hSw => exec_tab rfl rfl (htb wg hSw) hs
      simp only [Act.put, List.setIfInBounds_toArray, List.set_cons_zero, List.set_cons_succ]
      refine wpR_take growOrd (i := 16) (v := ?vf26) rfl (by kernel_rfl) (by kernel_rfl) (by kernel_rfl) (fun _ _ _ h => h) (by rfl) ?hf26 ?rf26
      case hf26 => (intro wg hSw; go_simp <;> with_reducible rfl)
      simp only [Act.put, List.setIfInBounds_toArray, List.set_cons_zero, List.set_cons_succ]
      refine wpR_name fun l' Q' A0 hl hQ hA => ?_
      have s4_5_8_9_12_13_17_18 : ∀ wS : World, Grow W0 wS → ∀ g4 : Nat, ∀ g8 : Nat, ∀ g12 : Nat, ∀ g17 : Nat, wpR Grow Try.prog .any l'.toArray Q' 4 #[true, true, true, true, true, true, true, true, true, true, true, true, true, true, true, true, true, true, true, false, false, false, false] (Act.put (Act.put (Act.put (Act.put (Act.put (Act.put (Act.put (Act.put (Act.put A0 (some 61) (.slice (some ⟨g4, 0, none⟩) 1 1)) (some 62) (.int .u32 (MD : Int))) (some 65) (.slice (some ⟨g8, 0, none⟩) 1 1)) (some 66) (.int .u32 (MA : Int))) (some 69) (.slice (some ⟨g12, 0, none⟩) 1 1)) (some 70) (.int .u32 (MB : Int))) (some 71) (.int .u32 (MAB : Int))) (some 74) (.slice (some ⟨g17, 0, none⟩) 1 1)) (some 75) (.int .u32 (MC : Int))) wS := by
        intro wS hGS g4 g8 g12 g17 
        subst hl hQ
        rw [hA]
        clear hA
        simp only [Act.put, List.setIfInBounds_toArray, List.set_cons_zero, List.set_cons_succ]
        refine wpR_take growOrd (i := 19) (v := ?vf27) rfl (by kernel_rfl) (by kernel_rfl) (by kernel_rfl) (fun _ _ _ h => h) (by rfl) ?hf27 ?rf27
        case hf27 => (intro wg hSw; go_simp <;> with_reducible rfl)
        simp only [Act.put, List.setIfInBounds_toArray, List.set_cons_zero, List.set_cons_succ]
        refine wpR_take growOrd (i := 20) (v := ?vf28) rfl (by kernel_rfl) (by kernel_rfl) (by kernel_rfl) (fun _ _ _ h => h) (by rfl) ?hf28 ?rf28
        case hf28 => (intro wg hSw; go_simp <;> with_reducible rfl)
        simp only [Act.put, List.setIfInBounds_toArray, List.set_cons_zero, List.set_cons_succ]
        refine wpR_take growOrd (i := 21) (v := ?vf29) rfl (by kernel_rfl) (by kernel_rfl) (by kernel_rfl) (fun _ _ _ h => h) (by rfl) ?hf29 ?rf29
        case hf29 => (intro wg hSw; go_simp <;> with_reducible rfl)
        simp only [Act.put, List.setIfInBounds_toArray, List.set_cons_zero, List.set_cons_succ]
        refine wpR_take growOrd (i := 22) (v := ?vf30) rfl (by kernel_rfl) (by kernel_rfl) (by kernel_rfl) (fun _ _ _ h => h) (by rfl) ?hf30 ?rf30
        case hf30 => (intro wg hSw; go_simp <;> with_reducible rfl)
        simp only [Act.put, List.setIfInBounds_toArray, List.set_cons_zero, List.set_cons_succ]
        refine wpR_done (by kernel_rfl) ?_
        go_wp2
        go_ret
        exact ⟨rfl, HFIN.out.trans hGS⟩
      simp only [hA, Act.put, List.setIfInBounds_toArray, List.set_cons_zero, List.set_cons_succ] at s4_5_8_9_12_13_17_18
      have S4_5_8_9_12_13_17_18 := Lib.hid s4_5_8_9_12_13_17_18
      clear s4_5_8_9_12_13_17_18
      have s4_5_8_9_12_13_17 : ∀ wS : World, Grow W0 wS → ∀ g4 : Nat, ∀ g8 : Nat, ∀ g12 : Nat, ∀ g17 : Nat, Prts wS wS.heap.size (some ⟨g17, 0, none⟩) [c] → wpR Grow Try.prog .any l'.toArray Q' 5 #[true, true, true, true, true, true, true, true, true, true, true, true, true, true, true, true, true, true, false, false, false, false, false] (Act.put (Act.put (Act.put (Act.put (Act.put (Act.put (Act.put (Act.put A0 (some 61) (.slice (some ⟨g4, 0, none⟩) 1 1)) (some 62) (.int .u32 (MD : Int))) (some 65) (.slice (some ⟨g8, 0, none⟩) 1 1)) (some 66) (.int .u32 (MA : Int))) (some 69) (.slice (some ⟨g12, 0, none⟩) 1 1)) (some 70) (.int .u32 (MB : Int))) (some 71) (.int .u32 (MAB : Int))) (some 74) (.slice (some ⟨g17, 0, none⟩) 1 1)) wS := by
        intro wS hGS g4 g8 g12 g17 hB17
        subst hl hQ
        rw [hA]
        clear hA
        simp only [Act.put, List.setIfInBounds_toArray, List.set_cons_zero, List.set_cons_succ]
        refine wpR_one (i := 18) (by kernel_rfl) ?_
        refine wpR_op (i := 18) rfl (by rfl) (fun K hK => ?_)
        go_simp
        refine (sum_v1 _ cs (tabF p) c wS MC HT.out (by rw [H3.out]; omega) BC.out hB17 HMC.out).mono ?_
        rintro e wM ⟨rfl, hM⟩
        refine hK.out _ _ hM ?_
        clear hK K
        try simp only [Act.put, List.setIfInBounds_toArray, List.set_cons_zero, List.set_cons_succ]
        refine wpR_to #[true, true, true, true, true, true, true, true, true, true, true, true, true, true, true, true, true, true, true, false, false, false, false] (by kernel_rfl) ?_
        exact S4_5_8_9_12_13_17_18.out wM (hGS.trans hM) g4 g8 g12 g17 
      simp only [hA, Act.put, List.setIfInBounds_toArray, List.set_cons_zero, List.set_cons_succ] at s4_5_8_9_12_13_17
      have S4_5_8_9_12_13_17 := Lib.hid s4_5_8_9_12_13_17
      clear s4_5_8_9_12_13_17
      have s4_5_8_9_12_13 : ∀ wS : World, Grow W0 wS → ∀ g4 : Nat, ∀ g8 : Nat, ∀ g12 : Nat, wpR Grow Try.prog .any l'.toArray Q' 6 #[true, true, true, true, true, true, true, true, true, true, true, true, true, true, true, true, true, false, false, false, false, false, false] (Act.put (Act.put (Act.put (Act.put (Act.put (Act.put (Act.put A0 (some 61) (.slice (some ⟨g4, 0, none⟩) 1 1)) (some 62) (.int .u32 (MD : Int))) (some 65) (.slice (some ⟨g8, 0, none⟩) 1 1)) (some 66) (.int .u32 (MA : Int))) (some 69) (.slice (some ⟨g12, 0, none⟩) 1 1)) (some 70) (.int .u32 (MB : Int))) (some 71) (.int .u32 (MAB : Int))) wS := by
        intro wS hGS g4 g8 g12 
        subst hl hQ
        rw [hA]
        clear hA
        simp only [Act.put, List.setIfInBounds_toArray, List.set_cons_zero, List.set_cons_succ]
        refine wpR_one (i := 17) (by kernel_rfl) ?_
        refine wpR_op (i := 17) rfl (by rfl) (fun K hK => ?_)
        go_simp
        refine hK.out _ _ (grow_new _ _) ?_
        clear hK K
        try simp only [Act.put, List.setIfInBounds_toArray, List.set_cons_zero, List.set_cons_succ]
        generalize hwM : World.alloc wS (Obj.cells _ 28) = wM
        have hM : Grow wS wM := by rw [← hwM]; exact grow_new _ _
        have hN : Prts wM wM.heap.size (some ⟨wS.heap.size, 0, none⟩) [c] := by
          rw [← hwM]
          exact prts_lit1 wS A3 n c3 c H3.out.symm E3.out (V3.out.grow hGS)
        refine wpR_to #[true, true, true, true, true, true, true, true, true, true, true, true, true, true, true, true, true, true, false, false, false, false, false] (by kernel_rfl) ?_
        exact S4_5_8_9_12_13_17.out wM (hGS.trans hM) g4 g8 g12 wS.heap.size hN
      simp only [hA, Act.put, List.setIfInBounds_toArray, List.set_cons_zero, List.set_cons_succ] at s4_5_8_9_12_13
      have S4_5_8_9_12_13 := Lib.hid s4_5_8_9_12_13
      clear s4_5_8_9_12_13
      have s4_5_8_9_12_17 : ∀ wS : World, Grow W0 wS → ∀ g4 : Nat, ∀ g8 : Nat, ∀ g12 : Nat, ∀ g17 : Nat, Prts wS wS.heap.size (some ⟨g12, 0, none⟩) [b] → Prts wS wS.heap.size (some ⟨g17, 0, none⟩) [c] → wpR Grow Try.prog .any l'.toArray Q' 7 #[true, true, true, true, true, true, true, true, true, true, true, true, true, false, false, true, true, true, false, false, false, false, false] (Act.put (Act.put (Act.put (Act.put (Act.put (Act.put A0 (some 61) (.slice (some ⟨g4, 0, none⟩) 1 1)) (some 62) (.int .u32 (MD : Int))) (some 65) (.slice (some ⟨g8, 0, none⟩) 1 1)) (some 66) (.int .u32 (MA : Int))) (some 69) (.slice (some ⟨g12, 0, none⟩) 1 1)) (some 74) (.slice (some ⟨g17, 0, none⟩) 1 1)) wS := by
        intro wS hGS g4 g8 g12 g17 hB12 hB17
        subst hl hQ
        rw [hA]
        clear hA
        simp only [Act.put, List.setIfInBounds_toArray, List.set_cons_zero, List.set_cons_succ]
        refine wpR_one (i := 13) (by kernel_rfl) ?_
        refine wpR_op (i := 13) rfl (by rfl) (fun K hK => ?_)
        go_simp
        refine (sum_v1 _ cs (tabF p) b wS MB HT.out (by rw [H2.out]; omega) BB.out hB12 HMB.out).mono ?_
        rintro e wM ⟨rfl, hM⟩
        refine hK.out _ _ hM ?_
        clear hK K
        try simp only [Act.put, List.setIfInBounds_toArray, List.set_cons_zero, List.set_cons_succ]
        refine wpR_take growOrd (i := 14) (v := ?vf31) rfl (by kernel_rfl) (by kernel_rfl) (by kernel_rfl) (fun _ _ _ h => h) (by rfl) ?hf31 ?rf31
        case hf31 => (intro wg hSw; go_simp <;> with_reducible rfl)
        simp only [Act.put, List.setIfInBounds_toArray, List.set_cons_zero, List.set_cons_succ]
        refine wpR_to #[true, true, true, true, true, true, true, true, true, true, true, true, true, true, true, true, true, true, false, false, false, false, false] (by kernel_rfl) ?_
        exact S4_5_8_9_12_13_17.out wM (hGS.trans hM) g4 g8 g12 g17 (hB17.grow hM)
      simp only [hA, Act.put, List.setIfInBounds_toArray, List.set_cons_zero, List.set_cons_succ] at s4_5_8_9_12_17
      have S4_5_8_9_12_17 := Lib.hid s4_5_8_9_12_17
      clear s4_5_8_9_12_17
      have s4_5_8_9_12 : ∀ wS : World, Grow W0 wS → ∀ g4 : Nat, ∀ g8 : Nat, ∀ g12 : Nat, Prts wS wS.heap.size (some ⟨g12, 0, none⟩) [b] → wpR Grow Try.prog .any l'.toArray Q' 8 #[true, true, true, true, true, true, true, true, true, true, true, true, true, false, false, true, true, false, false, false, false, false, false] (Act.put (Act.put (Act.put (Act.put (Act.put A0 (some 61) (.slice (some ⟨g4, 0, none⟩) 1 1)) (some 62) (.int .u32 (MD : Int))) (some 65) (.slice (some ⟨g8, 0, none⟩) 1 1)) (some 66) (.int .u32 (MA : Int))) (some 69) (.slice (some ⟨g12, 0, none⟩) 1 1)) wS := by
        intro wS hGS g4 g8 g12 hB12
        subst hl hQ
        rw [hA]
        clear hA
        simp only [Act.put, List.setIfInBounds_toArray, List.set_cons_zero, List.set_cons_succ]
        refine wpR_two (i := 13) (j := 17) (by kernel_rfl) ?_ ?_
        · refine wpR_op (i := 13) rfl (by rfl) (fun K hK => ?_)
          go_simp
          refine (sum_v1 _ cs (tabF p) b wS MB HT.out (by rw [H2.out]; omega) BB.out hB12 HMB.out).mono ?_
          rintro e wM ⟨rfl, hM⟩
          refine hK.out _ _ hM ?_
          clear hK K
          try simp only [Act.put, List.setIfInBounds_toArray, List.set_cons_zero, List.set_cons_succ]
          refine wpR_take growOrd (i := 14) (v := ?vf32) rfl (by kernel_rfl) (by kernel_rfl) (by kernel_rfl) (fun _ _ _ h => h) (by rfl) ?hf32 ?rf32
          case hf32 => (intro wg hSw; go_simp <;> with_reducible rfl)
          simp only [Act.put, List.setIfInBounds_toArray, List.set_cons_zero, List.set_cons_succ]
          refine wpR_to #[true, true, true, true, true, true, true, true, true, true, true, true, true, true, true, true, true, false, false, false, false, false, false] (by kernel_rfl) ?_
          exact S4_5_8_9_12_13.out wM (hGS.trans hM) g4 g8 g12 
        · refine wpR_op (i := 17) rfl (by rfl) (fun K hK => ?_)
          go_simp
          refine hK.out _ _ (grow_new _ _) ?_
          clear hK K
          try simp only [Act.put, List.setIfInBounds_toArray, List.set_cons_zero, List.set_cons_succ]
          generalize hwM : World.alloc wS (Obj.cells _ 28) = wM
          have hM : Grow wS wM := by rw [← hwM]; exact grow_new _ _
          have hN : Prts wM wM.heap.size (some ⟨wS.heap.size, 0, none⟩) [c] := by
            rw [← hwM]
            exact prts_lit1 wS A3 n c3 c H3.out.symm E3.out (V3.out.grow hGS)
          refine wpR_to #[true, true, true, true, true, true, true, true, true, true, true, true, true, false, false, true, true, true, false, false, false, false, false] (by kernel_rfl) ?_
          exact S4_5_8_9_12_17.out wM (hGS.trans hM) g4 g8 g12 wS.heap.size (hB12.grow hM) hN
      simp only [hA, Act.put, List.setIfInBounds_toArray, List.set_cons_zero, List.set_cons_succ] at s4_5_8_9_12
      have S4_5_8_9_12 := Lib.hid s4_5_8_9_12
      clear s4_5_8_9_12
      have s4_5_8_9_17 : ∀ wS : World, Grow W0 wS → ∀ g4 : Nat, ∀ g8 : Nat, ∀ g17 : Nat, Prts wS wS.heap.size (some ⟨g17, 0, none⟩) [c] → wpR Grow Try.prog .any l'.toArray Q' 8 #[true, true, true, true, true, true, true, true, true, true, true, true, false, false, false, true, true, true, false, false, false, false, false] (Act.put (Act.put (Act.put (Act.put (Act.put A0 (some 61) (.slice (some ⟨g4, 0, none⟩) 1 1)) (some 62) (.int .u32 (MD : Int))) (some 65) (.slice (some ⟨g8, 0, none⟩) 1 1)) (some 66) (.int .u32 (MA : Int))) (some 74) (.slice (some ⟨g17, 0, none⟩) 1 1)) wS := by
        intro wS hGS g4 g8 g17 hB17
        subst hl hQ
        rw [hA]
        clear hA
        simp only [Act.put, List.setIfInBounds_toArray, List.set_cons_zero, List.set_cons_succ]
        refine wpR_one (i := 12) (by kernel_rfl) ?_
        refine wpR_op (i := 12) rfl (by rfl) (fun K hK => ?_)
        go_simp
        refine hK.out _ _ (grow_new _ _) ?_
        clear hK K
        try simp only [Act.put, List.setIfInBounds_toArray, List.set_cons_zero, List.set_cons_succ]
        generalize hwM : World.alloc wS (Obj.cells _ 28) = wM
        have hM : Grow wS wM := by rw [← hwM]; exact grow_new _ _
        have hN : Prts wM wM.heap.size (some ⟨wS.heap.size, 0, none⟩) [b] := by
          rw [← hwM]
          exact prts_lit1 wS A2 n c2 b H2.out.symm E2.out (V2.out.grow hGS)
        refine wpR_to #[true, true, true, true, true, true, true, true, true, true, true, true, true, false, false, true, true, true, false, false, false, false, false] (by kernel_rfl) ?_
        exact S4_5_8_9_12_17.out wM (hGS.trans hM) g4 g8 wS.heap.size g17 hN (hB17.grow hM)
      simp only [hA, Act.put, List.setIfInBounds_toArray, List.set_cons_zero, List.set_cons_succ] at s4_5_8_9_17
      have S4_5_8_9_17 := Lib.hid s4_5_8_9_17
      clear s4_5_8_9_17
      have s4_5_8_9 : ∀ wS : World, Grow W0 wS → ∀ g4 : Nat, ∀ g8 : Nat, wpR Grow Try.prog .any l'.toArray Q' 9 #[true, true, true, true, true, true, true, true, true, true, true, true, false, false, false, true, true, false, false, false, false, false, false] (Act.put (Act.put (Act.put (Act.put A0 (some 61) (.slice (some ⟨g4, 0, none⟩) 1 1)) (some 62) (.int .u32 (MD : Int))) (some 65) (.slice (some ⟨g8, 0, none⟩) 1 1)) (some 66) (.int .u32 (MA : Int))) wS := by
        intro wS hGS g4 g8 
        subst hl hQ
        rw [hA]
        clear hA
        simp only [Act.put, List.setIfInBounds_toArray, List.set_cons_zero, List.set_cons_succ]
        refine wpR_two (i := 12) (j := 17) (by kernel_rfl) ?_ ?_
        · refine wpR_op (i := 12) rfl (by rfl) (fun K hK => ?_)
          go_simp
          refine hK.out _ _ (grow_new _ _) ?_
          clear hK K
          try simp only [Act.put, List.setIfInBounds_toArray, List.set_cons_zero, List.set_cons_succ]
          generalize hwM : World.alloc wS (Obj.cells _ 28) = wM
          have hM : Grow wS wM := by rw [← hwM]; exact grow_new _ _
          have hN : Prts wM wM.heap.size (some ⟨wS.heap.size, 0, none⟩) [b] := by
            rw [← hwM]
            exact prts_lit1 wS A2 n c2 b H2.out.symm E2.out (V2.out.grow hGS)
          refine wpR_to #[true, true, true, true, true, true, true, true, true, true, true, true, true, false, false, true, true, false, false, false, false, false, false] (by kernel_rfl) ?_
          exact S4_5_8_9_12.out wM (hGS.trans hM) g4 g8 wS.heap.size hN
        · refine wpR_op (i := 17) rfl (by rfl) (fun K hK => ?_)
          go_simp
          refine hK.out _ _ (grow_new _ _) ?_
          clear hK K
          try simp only [Act.put, List.setIfInBounds_toArray, List.set_cons_zero, List.set_cons_succ]
          generalize hwM : World.alloc wS (Obj.cells _ 28) = wM
          have hM : Grow wS wM := by rw [← hwM]; exact grow_new _ _
          have hN : Prts wM wM.heap.size (some ⟨wS.heap.size, 0, none⟩) [c] := by
            rw [← hwM]
            exact prts_lit1 wS A3 n c3 c H3.out.symm E3.out (V3.out.grow hGS)
          refine wpR_to #[true, true, true, true, true, true, true, true, true, true, true, true, false, false, false, true, true, true, false, false, false, false, false] (by kernel_rfl) ?_
          exact S4_5_8_9_17.out wM (hGS.trans hM) g4 g8 wS.heap.size hN
      simp only [hA, Act.put, List.setIfInBounds_toArray, List.set_cons_zero, List.set_cons_succ] at s4_5_8_9
      have S4_5_8_9 := Lib.hid s4_5_8_9
      clear s4_5_8_9
      have s4_5_8_12_17 : ∀ wS : World, Grow W0 wS → ∀ g4 : Nat, ∀ g8 : Nat, ∀ g12 : Nat, ∀ g17 : Nat, Prts wS wS.heap.size (some ⟨g8, 0, none⟩) [a] → Prts wS wS.heap.size (some ⟨g12, 0, none⟩) [b] → Prts wS wS.heap.size (some ⟨g17, 0, none⟩) [c] → wpR Grow Try.prog .any l'.toArray Q' 8 #[true, true, true, true, true, true, true, true, true, false, true, true, true, false, false, true, true, true, false, false, false, false, false] (Act.put (Act.put (Act.put (Act.put (Act.put A0 (some 61) (.slice (some ⟨g4, 0, none⟩) 1 1)) (some 62) (.int .u32 (MD : Int))) (some 65) (.slice (some ⟨g8, 0, none⟩) 1 1)) (some 69) (.slice (some ⟨g12, 0, none⟩) 1 1)) (some 74) (.slice (some ⟨g17, 0, none⟩) 1 1)) wS := by
        intro wS hGS g4 g8 g12 g17 hB8 hB12 hB17
        subst hl hQ
        rw [hA]
        clear hA
        simp only [Act.put, List.setIfInBounds_toArray, List.set_cons_zero, List.set_cons_succ]
        refine wpR_one (i := 9) (by kernel_rfl) ?_
        refine wpR_op (i := 9) rfl (by rfl) (fun K hK => ?_)
        go_simp
        refine (sum_v1 _ cs (tabF p) a wS MA HT.out (by rw [H1.out]; omega) BA.out hB8 HMA.out).mono ?_
        rintro e wM ⟨rfl, hM⟩
        refine hK.out _ _ hM ?_
        clear hK K
        try simp only [Act.put, List.setIfInBounds_toArray, List.set_cons_zero, List.set_cons_succ]
        refine wpR_to #[true, true, true, true, true, true, true, true, true, true, true, true, true, false, false, true, true, true, false, false, false, false, false] (by kernel_rfl) ?_
        exact S4_5_8_9_12_17.out wM (hGS.trans hM) g4 g8 g12 g17 (hB12.grow hM) (hB17.grow hM)
      simp only [hA, Act.put, List.setIfInBounds_toArray, List.set_cons_zero, List.set_cons_succ] at s4_5_8_12_17
      have S4_5_8_12_17 := Lib.hid s4_5_8_12_17
      clear s4_5_8_12_17
      have s4_5_8_12 : ∀ wS : World, Grow W0 wS → ∀ g4 : Nat, ∀ g8 : Nat, ∀ g12 : Nat, Prts wS wS.heap.size (some ⟨g8, 0, none⟩) [a] → Prts wS wS.heap.size (some ⟨g12, 0, none⟩) [b] → wpR Grow Try.prog .any l'.toArray Q' 9 #[true, true, true, true, true, true, true, true, true, false, true, true, true, false, false, true, true, false, false, false, false, false, false] (Act.put (Act.put (Act.put (Act.put A0 (some 61) (.slice (some ⟨g4, 0, none⟩) 1 1)) (some 62) (.int .u32 (MD : Int))) (some 65) (.slice (some ⟨g8, 0, none⟩) 1 1)) (some 69) (.slice (some ⟨g12, 0, none⟩) 1 1)) wS := by
        intro wS hGS g4 g8 g12 hB8 hB12
        subst hl hQ
        rw [hA]
        clear hA
        simp only [Act.put, List.setIfInBounds_toArray, List.set_cons_zero, List.set_cons_succ]
        refine wpR_two (i := 9) (j := 17) (by kernel_rfl) ?_ ?_
        · refine wpR_op (i := 9) rfl (by rfl) (fun K hK => ?_)
          go_simp
          refine (sum_v1 _ cs (tabF p) a wS MA HT.out (by rw [H1.out]; omega) BA.out hB8 HMA.out).mono ?_
          rintro e wM ⟨rfl, hM⟩
          refine hK.out _ _ hM ?_
          clear hK K
          try simp only [Act.put, List.setIfInBounds_toArray, List.set_cons_zero, List.set_cons_succ]
          refine wpR_to #[true, true, true, true, true, true, true, true, true, true, true, true, true, false, false, true, true, false, false, false, false, false, false] (by kernel_rfl) ?_
          exact S4_5_8_9_12.out wM (hGS.trans hM) g4 g8 g12 (hB12.grow hM)
        · refine wpR_op (i := 17) rfl (by rfl) (fun K hK => ?_)
          go_simp
          refine hK.out _ _ (grow_new _ _) ?_
          clear hK K
          try simp only [Act.put, List.setIfInBounds_toArray, List.set_cons_zero, List.set_cons_succ]
          generalize hwM : World.alloc wS (Obj.cells _ 28) = wM
          have hM : Grow wS wM := by rw [← hwM]; exact grow_new _ _
          have hN : Prts wM wM.heap.size (some ⟨wS.heap.size, 0, none⟩) [c] := by
            rw [← hwM]
            exact prts_lit1 wS A3 n c3 c H3.out.symm E3.out (V3.out.grow hGS)
          refine wpR_to #[true, true, true, true, true, true, true, true, true, false, true, true, true, false, false, true, true, true, false, false, false, false, false] (by kernel_rfl) ?_
          exact S4_5_8_12_17.out wM (hGS.trans hM) g4 g8 g12 wS.heap.size (hB8.grow hM) (hB12.grow hM) hN
      simp only [hA, Act.put, List.setIfInBounds_toArray, List.set_cons_zero, List.set_cons_succ] at s4_5_8_12
      have S4_5_8_12 := Lib.hid s4_5_8_12
      clear s4_5_8_12
      have s4_5_8_17 : ∀ wS : World, Grow W0 wS → ∀ g4 : Nat, ∀ g8 : Nat, ∀ g17 : Nat, Prts wS wS.heap.size (some ⟨g8, 0, none⟩) [a] → Prts wS wS.heap.size (some ⟨g17, 0, none⟩) [c] → wpR Grow Try.prog .any l'.toArray Q' 9 #[true, true, true, true, true, true, true, true, true, false, true, true, false, false, false, true, true, true, false, false, false, false, false] (Act.put (Act.put (Act.put (Act.put A0 (some 61) (.slice (some ⟨g4, 0, none⟩) 1 1)) (some 62) (.int .u32 (MD : Int))) (some 65) (.slice (some ⟨g8, 0, none⟩) 1 1)) (some 74) (.slice (some ⟨g17, 0, none⟩) 1 1)) wS := by
        intro wS hGS g4 g8 g17 hB8 hB17
        subst hl hQ
        rw [hA]
        clear hA
        simp only [Act.put, List.setIfInBounds_toArray, List.set_cons_zero, List.set_cons_succ]
        refine wpR_two (i := 9) (j := 12) (by kernel_rfl) ?_ ?_
        · refine wpR_op (i := 9) rfl (by rfl) (fun K hK => ?_)
          go_simp
          refine (sum_v1 _ cs (tabF p) a wS MA HT.out (by rw [H1.out]; omega) BA.out hB8 HMA.out).mono ?_
          rintro e wM ⟨rfl, hM⟩
          refine hK.out _ _ hM ?_
          clear hK K
          try simp only [Act.put, List.setIfInBounds_toArray, List.set_cons_zero, List.set_cons_succ]
          refine wpR_to #[true, true, true, true, true, true, true, true, true, true, true, true, false, false, false, true, true, true, false, false, false, false, false] (by kernel_rfl) ?_
          exact S4_5_8_9_17.out wM (hGS.trans hM) g4 g8 g17 (hB17.grow hM)
        · refine wpR_op (i := 12) rfl (by rfl) (fun K hK => ?_)
          go_simp
          refine hK.out _ _ (grow_new _ _) ?_
          clear hK K
          try simp only [Act.put, List.setIfInBounds_toArray, List.set_cons_zero, List.set_cons_succ]
          generalize hwM : World.alloc wS (Obj.cells _ 28) = wM
          have hM : Grow wS wM := by rw [← hwM]; exact grow_new _ _
          have hN : Prts wM wM.heap.size (some ⟨wS.heap.size, 0, none⟩) [b] := by
            rw [← hwM]
            exact prts_lit1 wS A2 n c2 b H2.out.symm E2.out (V2.out.grow hGS)
          refine wpR_to #[true, true, true, true, true, true, true, true, true, false, true, true, true, false, false, true, true, true, false, false, false, false, false] (by kernel_rfl) ?_
          exact S4_5_8_12_17.out wM (hGS.trans hM) g4 g8 wS.heap.size g17 (hB8.grow hM) hN (hB17.grow hM)
      simp only [hA, Act.put, List.setIfInBounds_toArray, List.set_cons_zero, List.set_cons_succ] at s4_5_8_17
      have S4_5_8_17 := Lib.hid s4_5_8_17
      clear s4_5_8_17
      have s4_5_8 : ∀ wS : World, Grow W0 wS → ∀ g4 : Nat, ∀ g8 : Nat, Prts wS wS.heap.size (some ⟨g8, 0, none⟩) [a] → wpR Grow Try.prog .any l'.toArray Q' 10 #[true, true, true, true, true, true, true, true, true, false, true, true, false, false, false, true, true, false, false, false, false, false, false] (Act.put (Act.put (Act.put A0 (some 61) (.slice (some ⟨g4, 0, none⟩) 1 1)) (some 62) (.int .u32 (MD : Int))) (some 65) (.slice (some ⟨g8, 0, none⟩) 1 1)) wS := by
        intro wS hGS g4 g8 hB8
        subst hl hQ
        rw [hA]
        clear hA
        simp only [Act.put, List.setIfInBounds_toArray, List.set_cons_zero, List.set_cons_succ]
        refine wpR_three (i := 9) (j := 12) (k := 17) (by kernel_rfl) ?_ ?_ ?_
        · refine wpR_op (i := 9) rfl (by rfl) (fun K hK => ?_)
          go_simp
          refine (sum_v1 _ cs (tabF p) a wS MA HT.out (by rw [H1.out]; omega) BA.out hB8 HMA.out).mono ?_
          rintro e wM ⟨rfl, hM⟩
          refine hK.out _ _ hM ?_
          clear hK K
          try simp only [Act.put, List.setIfInBounds_toArray, List.set_cons_zero, List.set_cons_succ]
          refine wpR_to #[true, true, true, true, true, true, true, true, true, true, true, true, false, false, false, true, true, false, false, false, false, false, false] (by kernel_rfl) ?_
          exact S4_5_8_9.out wM (hGS.trans hM) g4 g8 
        · refine wpR_op (i := 12) rfl (by rfl) (fun K hK => ?_)
          go_simp
          refine hK.out _ _ (grow_new _ _) ?_
          clear hK K
          try simp only [Act.put, List.setIfInBounds_toArray, List.set_cons_zero, List.set_cons_succ]
          generalize hwM : World.alloc wS (Obj.cells _ 28) = wM
          have hM : Grow wS wM := by rw [← hwM]; exact grow_new _ _
          have hN : Prts wM wM.heap.size (some ⟨wS.heap.size, 0, none⟩) [b] := by
            rw [← hwM]
            exact prts_lit1 wS A2 n c2 b H2.out.symm E2.out (V2.out.grow hGS)
          refine wpR_to #[true, true, true, true, true, true, true, true, true, false, true, true, true, false, false, true, true, false, false, false, false, false, false] (by kernel_rfl) ?_
          exact S4_5_8_12.out wM (hGS.trans hM) g4 g8 wS.heap.size (hB8.grow hM) hN
        · refine wpR_op (i := 17) rfl (by rfl) (fun K hK => ?_)
          go_simp
          refine hK.out _ _ (grow_new _ _) ?_
          clear hK K
          try simp only [Act.put, List.setIfInBounds_toArray, List.set_cons_zero, List.set_cons_succ]
          generalize hwM : World.alloc wS (Obj.cells _ 28) = wM
          have hM : Grow wS wM := by rw [← hwM]; exact grow_new _ _
          have hN : Prts wM wM.heap.size (some ⟨wS.heap.size, 0, none⟩) [c] := by
            rw [← hwM]
            exact prts_lit1 wS A3 n c3 c H3.out.symm E3.out (V3.out.grow hGS)
          refine wpR_to #[true, true, true, true, true, true, true, true, true, false, true, true, false, false, false, true, true, true, false, false, false, false, false] (by kernel_rfl) ?_
          exact S4_5_8_17.out wM (hGS.trans hM) g4 g8 wS.heap.size (hB8.grow hM) hN
      simp only [hA, Act.put, List.setIfInBounds_toArray, List.set_cons_zero, List.set_cons_succ] at s4_5_8
      have S4_5_8 := Lib.hid s4_5_8
      clear s4_5_8
      have s4_5_12_17 : ∀ wS : World, Grow W0 wS → ∀ g4 : Nat, ∀ g12 : Nat, ∀ g17 : Nat, Prts wS wS.heap.size (some ⟨g12, 0, none⟩) [b] → Prts wS wS.heap.size (some ⟨g17, 0, none⟩) [c] → wpR Grow Try.prog .any l'.toArray Q' 9 #[true, true, true, true, true, true, true, true, false, false, true, true, true, false, false, true, true, true, false, false, false, false, false] (Act.put (Act.put (Act.put (Act.put A0 (some 61) (.slice (some ⟨g4, 0, none⟩) 1 1)) (some 62) (.int .u32 (MD : Int))) (some 69) (.slice (some ⟨g12, 0, none⟩) 1 1)) (some 74) (.slice (some ⟨g17, 0, none⟩) 1 1)) wS := by
        intro wS hGS g4 g12 g17 hB12 hB17
        subst hl hQ
        rw [hA]
        clear hA
        simp only [Act.put, List.setIfInBounds_toArray, List.set_cons_zero, List.set_cons_succ]
        refine wpR_one (i := 8) (by kernel_rfl) ?_
        refine wpR_op (i := 8) rfl (by rfl) (fun K hK => ?_)
        go_simp
        refine hK.out _ _ (grow_new _ _) ?_
        clear hK K
        try simp only [Act.put, List.setIfInBounds_toArray, List.set_cons_zero, List.set_cons_succ]
        generalize hwM : World.alloc wS (Obj.cells _ 28) = wM
        have hM : Grow wS wM := by rw [← hwM]; exact grow_new _ _
        have hN : Prts wM wM.heap.size (some ⟨wS.heap.size, 0, none⟩) [a] := by
          rw [← hwM]
          exact prts_lit1 wS A1 n c1 a H1.out.symm E1.out (V1.out.grow hGS)
        refine wpR_to #[true, true, true, true, true, true, true, true, true, false, true, true, true, false, false, true, true, true, false, false, false, false, false] (by kernel_rfl) ?_
        exact S4_5_8_12_17.out wM (hGS.trans hM) g4 wS.heap.size g12 g17 hN (hB12.grow hM) (hB17.grow hM)
      simp only [hA, Act.put, List.setIfInBounds_toArray, List.set_cons_zero, List.set_cons_succ] at s4_5_12_17
      have S4_5_12_17 := Lib.hid s4_5_12_17
      clear s4_5_12_17
      have s4_5_12 : ∀ wS : World, Grow W0 wS → ∀ g4 : Nat, ∀ g12 : Nat, Prts wS wS.heap.size (some ⟨g12, 0, none⟩) [b] → wpR Grow Try.prog .any l'.toArray Q' 10 #[true, true, true, true, true, true, true, true, false, false, true, true, true, false, false, true, true, false, false, false, false, false, false] (Act.put (Act.put (Act.put A0 (some 61) (.slice (some ⟨g4, 0, none⟩) 1 1)) (some 62) (.int .u32 (MD : Int))) (some 69) (.slice (some ⟨g12, 0, none⟩) 1 1)) wS := by
        intro wS hGS g4 g12 hB12
        subst hl hQ
        rw [hA]
        clear hA
        simp only [Act.put, List.setIfInBounds_toArray, List.set_cons_zero, List.set_cons_succ]
        refine wpR_two (i := 8) (j := 17) (by kernel_rfl) ?_ ?_
        · refine wpR_op (i := 8) rfl (by rfl) (fun K hK => ?_)
          go_simp
          refine hK.out _ _ (grow_new _ _) ?_
          clear hK K
          try simp only [Act.put, List.setIfInBounds_toArray, List.set_cons_zero, List.set_cons_succ]
          generalize hwM : World.alloc wS (Obj.cells _ 28) = wM
          have hM : Grow wS wM := by rw [← hwM]; exact grow_new _ _
          have hN : Prts wM wM.heap.size (some ⟨wS.heap.size, 0, none⟩) [a] := by
            rw [← hwM]
            exact prts_lit1 wS A1 n c1 a H1.out.symm E1.out (V1.out.grow hGS)
          refine wpR_to #[true, true, true, true, true, true, true, true, true, false, true, true, true, false, false, true, true, false, false, false, false, false, false] (by kernel_rfl) ?_
          exact S4_5_8_12.out wM (hGS.trans hM) g4 wS.heap.size g12 hN (hB12.grow hM)
        · refine wpR_op (i := 17) rfl (by rfl) (fun K hK => ?_)
          go_simp
          refine hK.out _ _ (grow_new _ _) ?_
          clear hK K
          try simp only [Act.put, List.setIfInBounds_toArray, List.set_cons_zero, List.set_cons_succ]
          generalize hwM : World.alloc wS (Obj.cells _ 28) = wM
          have hM : Grow wS wM := by rw [← hwM]; exact grow_new _ _
          have hN : Prts wM wM.heap.size (some ⟨wS.heap.size, 0, none⟩) [c] := by
            rw [← hwM]
            exact prts_lit1 wS A3 n c3 c H3.out.symm E3.out (V3.out.grow hGS)
          refine wpR_to #[true, true, true, true, true, true, true, true, false, false, true, true, true, false, false, true, true, true, false, false, false, false, false] (by kernel_rfl) ?_
          exact S4_5_12_17.out wM (hGS.trans hM) g4 g12 wS.heap.size (hB12.grow hM) hN
      simp only [hA, Act.put, List.setIfInBounds_toArray, List.set_cons_zero, List.set_cons_succ] at s4_5_12
      have S4_5_12 := Lib.hid s4_5_12
      clear s4_5_12
      have s4_5_17 : ∀ wS : World, Grow W0 wS → ∀ g4 : Nat, ∀ g17 : Nat, Prts wS wS.heap.size (some ⟨g17, 0, none⟩) [c] → wpR Grow Try.prog .any l'.toArray Q' 10 #[true, true, true, true, true, true, true, true, false, false, true, true, false, false, false, true, true, true, false, false, false, false, false] (Act.put (Act.put (Act.put A0 (some 61) (.slice (some ⟨g4, 0, none⟩) 1 1)) (some 62) (.int .u32 (MD : Int))) (some 74) (.slice (some ⟨g17, 0, none⟩) 1 1)) wS := by
        intro wS hGS g4 g17 hB17
        subst hl hQ
        rw [hA]
        clear hA
        simp only [Act.put, List.setIfInBounds_toArray, List.set_cons_zero, List.set_cons_succ]
        refine wpR_two (i := 8) (j := 12) (by kernel_rfl) ?_ ?_
        · refine wpR_op (i := 8) rfl (by rfl) (fun K hK => ?_)
          go_simp
          refine hK.out _ _ (grow_new _ _) ?_
          clear hK K
          try simp only [Act.put, List.setIfInBounds_toArray, List.set_cons_zero, List.set_cons_succ]
          generalize hwM : World.alloc wS (Obj.cells _ 28) = wM
          have hM : Grow wS wM := by rw [← hwM]; exact grow_new _ _
          have hN : Prts wM wM.heap.size (some ⟨wS.heap.size, 0, none⟩) [a] := by
            rw [← hwM]
            exact prts_lit1 wS A1 n c1 a H1.out.symm E1.out (V1.out.grow hGS)
          refine wpR_to #[true, true, true, true, true, true, true, true, true, false, true, true, false, false, false, true, true, true, false, false, false, false, false] (by kernel_rfl) ?_
          exact S4_5_8_17.out wM (hGS.trans hM) g4 wS.heap.size g17 hN (hB17.grow hM)
        · refine wpR_op (i := 12) rfl (by rfl) (fun K hK => ?_)
          go_simp
          refine hK.out _ _ (grow_new _ _) ?_
          clear hK K
          try simp only [Act.put, List.setIfInBounds_toArray, List.set_cons_zero, List.set_cons_succ]
          generalize hwM : World.alloc wS (Obj.cells _ 28) = wM
          have hM : Grow wS wM := by rw [← hwM]; exact grow_new _ _
          have hN : Prts wM wM.heap.size (some ⟨wS.heap.size, 0, none⟩) [b] := by
            rw [← hwM]
            exact prts_lit1 wS A2 n c2 b H2.out.symm E2.out (V2.out.grow hGS)
          refine wpR_to #[true, true, true, true, true, true, true, true, false, false, true, true, true, false, false, true, true, true, false, false, false, false, false] (by kernel_rfl) ?_
          exact S4_5_12_17.out wM (hGS.trans hM) g4 wS.heap.size g17 hN (hB17.grow hM)
      simp only [hA, Act.put, List.setIfInBounds_toArray, List.set_cons_zero, List.set_cons_succ] at s4_5_17
      have S4_5_17 := Lib.hid s4_5_17
      clear s4_5_17
      have s4_5 : ∀ wS : World, Grow W0 wS → ∀ g4 : Nat, wpR Grow Try.prog .any l'.toArray Q' 11 #[true, true, true, true, true, true, true, true, false, false, true, true, false, false, false, true, true, false, false, false, false, false, false] (Act.put (Act.put A0 (some 61) (.slice (some ⟨g4, 0, none⟩) 1 1)) (some 62) (.int .u32 (MD : Int))) wS := by
        intro wS hGS g4 
        subst hl hQ
        rw [hA]
        clear hA
        simp only [Act.put, List.setIfInBounds_toArray, List.set_cons_zero, List.set_cons_succ]
        refine wpR_three (i := 8) (j := 12) (k := 17) (by kernel_rfl) ?_ ?_ ?_
        · refine wpR_op (i := 8) rfl (by rfl) (fun K hK => ?_)
          go_simp
          refine hK.out _ _ (grow_new _ _) ?_
          clear hK K
          try simp only [Act.put, List.setIfInBounds_toArray, List.set_cons_zero, List.set_cons_succ]
          generalize hwM : World.alloc wS (Obj.cells _ 28) = wM
          have hM : Grow wS wM := by rw [← hwM]; exact grow_new _ _
          have hN : Prts wM wM.heap.size (some ⟨wS.heap.size, 0, none⟩) [a] := by
            rw [← hwM]
            exact prts_lit1 wS A1 n c1 a H1.out.symm E1.out (V1.out.grow hGS)
          refine wpR_to #[true, true, true, true, true, true, true, true, true, false, true, true, false, false, false, true, true, false, false, false, false, false, false] (by kernel_rfl) ?_
          exact S4_5_8.out wM (hGS.trans hM) g4 wS.heap.size hN
        · refine wpR_op (i := 12) rfl (by rfl) (fun K hK => ?_)
          go_simp
          refine hK.out _ _ (grow_new _ _) ?_
          clear hK K
          try simp only [Act.put, List.setIfInBounds_toArray, List.set_cons_zero, List.set_cons_succ]
          generalize hwM : World.alloc wS (Obj.cells _ 28) = wM
          have hM : Grow wS wM := by rw [← hwM]; exact grow_new _ _
          have hN : Prts wM wM.heap.size (some ⟨wS.heap.size, 0, none⟩) [b] := by
            rw [← hwM]
            exact prts_lit1 wS A2 n c2 b H2.out.symm E2.out (V2.out.grow hGS)
          refine wpR_to #[true, true, true, true, true, true, true, true, false, false, true, true, true, false, false, true, true, false, false, false, false, false, false] (by kernel_rfl) ?_
          exact S4_5_12.out wM (hGS.trans hM) g4 wS.heap.size hN
        · refine wpR_op (i := 17) rfl (by rfl) (fun K hK => ?_)
          go_simp
          refine hK.out _ _ (grow_new _ _) ?_
          clear hK K
          try simp only [Act.put, List.setIfInBounds_toArray, List.set_cons_zero, List.set_cons_succ]
          generalize hwM : World.alloc wS (Obj.cells _ 28) = wM
          have hM : Grow wS wM := by rw [← hwM]; exact grow_new _ _
          have hN : Prts wM wM.heap.size (some ⟨wS.heap.size, 0, none⟩) [c] := by
            rw [← hwM]
            exact prts_lit1 wS A3 n c3 c H3.out.symm E3.out (V3.out.grow hGS)
          refine wpR_to #[true, true, true, true, true, true, true, true, false, false, true, true, false, false, false, true, true, true, false, false, false, false, false] (by kernel_rfl) ?_
          exact S4_5_17.out wM (hGS.trans hM) g4 wS.heap.size hN
      simp only [hA, Act.put, List.setIfInBounds_toArray, List.set_cons_zero, List.set_cons_succ] at s4_5
      have S4_5 := Lib.hid s4_5
      clear s4_5
      have s4_8_12_17 : ∀ wS : World, Grow W0 wS → ∀ g4 : Nat, ∀ g8 : Nat, ∀ g12 : Nat, ∀ g17 : Nat, Prts wS wS.heap.size (some ⟨g4, 0, none⟩) [d] → Prts wS wS.heap.size (some ⟨g8, 0, none⟩) [a] → Prts wS wS.heap.size (some ⟨g12, 0, none⟩) [b] → Prts wS wS.heap.size (some ⟨g17, 0, none⟩) [c] → wpR Grow Try.prog .any l'.toArray Q' 9 #[true, true, true, true, true, false, true, true, true, false, true, true, true, false, false, true, true, true, false, false, false, false, false] (Act.put (Act.put (Act.put (Act.put A0 (some 61) (.slice (some ⟨g4, 0, none⟩) 1 1)) (some 65) (.slice (some ⟨g8, 0, none⟩) 1 1)) (some 69) (.slice (some ⟨g12, 0, none⟩) 1 1)) (some 74) (.slice (some ⟨g17, 0, none⟩) 1 1)) wS := by
        intro wS hGS g4 g8 g12 g17 hB4 hB8 hB12 hB17
        subst hl hQ
        rw [hA]
        clear hA
        simp only [Act.put, List.setIfInBounds_toArray, List.set_cons_zero, List.set_cons_succ]
        refine wpR_one (i := 5) (by kernel_rfl) ?_
        refine wpR_op (i := 5) rfl (by rfl) (fun K hK => ?_)
        go_simp
        refine (sum_v1 _ cs (tabF p) d wS MD HT.out (by rw [HLD.out]; omega) hbd.out hB4 HMD.out).mono ?_
        rintro e wM ⟨rfl, hM⟩
        refine hK.out _ _ hM ?_
        clear hK K
        try simp only [Act.put, List.setIfInBounds_toArray, List.set_cons_zero, List.set_cons_succ]
        refine wpR_to #[true, true, true, true, true, true, true, true, true, false, true, true, true, false, false, true, true, true, false, false, false, false, false] (by kernel_rfl) ?_
        exact S4_5_8_12_17.out wM (hGS.trans hM) g4 g8 g12 g17 (hB8.grow hM) (hB12.grow hM) (hB17.grow hM)
      simp only [hA, Act.put, List.setIfInBounds_toArray, List.set_cons_zero, List.set_cons_succ] at s4_8_12_17
      have S4_8_12_17 := Lib.hid s4_8_12_17
      clear s4_8_12_17
      have s4_8_12 : ∀ wS : World, Grow W0 wS → ∀ g4 : Nat, ∀ g8 : Nat, ∀ g12 : Nat, Prts wS wS.heap.size (some ⟨g4, 0, none⟩) [d] → Prts wS wS.heap.size (some ⟨g8, 0, none⟩) [a] → Prts wS wS.heap.size (some ⟨g12, 0, none⟩) [b] → wpR Grow Try.prog .any l'.toArray Q' 10 #[true, true, true, true, true, false, true, true, true, false, true, true, true, false, false, true, true, false, false, false, false, false, false] (Act.put (Act.put (Act.put A0 (some 61) (.slice (some ⟨g4, 0, none⟩) 1 1)) (some 65) (.slice (some ⟨g8, 0, none⟩) 1 1)) (some 69) (.slice (some ⟨g12, 0, none⟩) 1 1)) wS := by
        intro wS hGS g4 g8 g12 hB4 hB8 hB12
        subst hl hQ
        rw [hA]
        clear hA
        simp only [Act.put, List.setIfInBounds_toArray, List.set_cons_zero, List.set_cons_succ]
        refine wpR_two (i := 5) (j := 17) (by kernel_rfl) ?_ ?_
        · refine wpR_op (i := 5) rfl (by rfl) (fun K hK => ?_)
          go_simp
          refine (sum_v1 _ cs (tabF p) d wS MD HT.out (by rw [HLD.out]; omega) hbd.out hB4 HMD.out).mono ?_
          rintro e wM ⟨rfl, hM⟩
          refine hK.out _ _ hM ?_
          clear hK K
          try simp only [Act.put, List.setIfInBounds_toArray, List.set_cons_zero, List.set_cons_succ]
          refine wpR_to #[true, true, true, true, true, true, true, true, true, false, true, true, true, false, false, true, true, false, false, false, false, false, false] (by kernel_rfl) ?_
          exact S4_5_8_12.out wM (hGS.trans hM) g4 g8 g12 (hB8.grow hM) (hB12.grow hM)
        · refine wpR_op (i := 17) rfl (by rfl) (fun K hK => ?_)
          go_simp
          refine hK.out _ _ (grow_new _ _) ?_
          clear hK K
          try simp only [Act.put, List.setIfInBounds_toArray, List.set_cons_zero, List.set_cons_succ]
          generalize hwM : World.alloc wS (Obj.cells _ 28) = wM
          have hM : Grow wS wM := by rw [← hwM]; exact grow_new _ _
          have hN : Prts wM wM.heap.size (some ⟨wS.heap.size, 0, none⟩) [c] := by
            rw [← hwM]
            exact prts_lit1 wS A3 n c3 c H3.out.symm E3.out (V3.out.grow hGS)
          refine wpR_to #[true, true, true, true, true, false, true, true, true, false, true, true, true, false, false, true, true, true, false, false, false, false, false] (by kernel_rfl) ?_
          exact S4_8_12_17.out wM (hGS.trans hM) g4 g8 g12 wS.heap.size (hB4.grow hM) (hB8.grow hM) (hB12.grow hM) hN
      simp only [hA, Act.put, List.setIfInBounds_toArray, List.set_cons_zero, List.set_cons_succ] at s4_8_12
      have S4_8_12 := Lib.hid s4_8_12
      clear s4_8_12
      have s4_8_17 : ∀ wS : World, Grow W0 wS → ∀ g4 : Nat, ∀ g8 : Nat, ∀ g17 : Nat, Prts wS wS.heap.size (some ⟨g4, 0, none⟩) [d] → Prts wS wS.heap.size (some ⟨g8, 0, none⟩) [a] → Prts wS wS.heap.size (some ⟨g17, 0, none⟩) [c] → wpR Grow Try.prog .any l'.toArray Q' 10 #[true, true, true, true, true, false, true, true, true, false, true, true, false, false, false, true, true, true, false, false, false, false, false] (Act.put (Act.put (Act.put A0 (some 61) (.slice (some ⟨g4, 0, none⟩) 1 1)) (some 65) (.slice (some ⟨g8, 0, none⟩) 1 1)) (some 74) (.slice (some ⟨g17, 0, none⟩) 1 1)) wS := by
        intro wS hGS g4 g8 g17 hB4 hB8 hB17
        subst hl hQ
        rw [hA]
        clear hA
        simp only [Act.put, List.setIfInBounds_toArray, List.set_cons_zero, List.set_cons_succ]
        refine wpR_two (i := 5) (j := 12) (by kernel_rfl) ?_ ?_
        · refine wpR_op (i := 5) rfl (by rfl) (fun K hK => ?_)
          go_simp
          refine (sum_v1 _ cs (tabF p) d wS MD HT.out (by rw [HLD.out]; omega) hbd.out hB4 HMD.out).mono ?_
          rintro e wM ⟨rfl, hM⟩
          refine hK.out _ _ hM ?_
          clear hK K
          try simp only [Act.put, List.setIfInBounds_toArray, List.set_cons_zero, List.set_cons_succ]
          refine wpR_to #[true, true, true, true, true, true, true, true, true, false, true, true, false, false, false, true, true, true, false, false, false, false, false] (by kernel_rfl) ?_
          exact S4_5_8_17.out wM (hGS.trans hM) g4 g8 g17 (hB8.grow hM) (hB17.grow hM)
        · refine wpR_op (i := 12) rfl (by rfl) (fun K hK => ?_)
          go_simp
          refine hK.out _ _ (grow_new _ _) ?_
          clear hK K
          try simp only [Act.put, List.setIfInBounds_toArray, List.set_cons_zero, List.set_cons_succ]
          generalize hwM : World.alloc wS (Obj.cells _ 28) = wM
          have hM : Grow wS wM := by rw [← hwM]; exact grow_new _ _
          have hN : Prts wM wM.heap.size (some ⟨wS.heap.size, 0, none⟩) [b] := by
            rw [← hwM]
            exact prts_lit1 wS A2 n c2 b H2.out.symm E2.out (V2.out.grow hGS)
          refine wpR_to #[true, true, true, true, true, false, true, true, true, false, true, true, true, false, false, true, true, true, false, false, false, false, false] (by kernel_rfl) ?_
          exact S4_8_12_17.out wM (hGS.trans hM) g4 g8 wS.heap.size g17 (hB4.grow hM) (hB8.grow hM) hN (hB17.grow hM)
      simp only [hA, Act.put, List.setIfInBounds_toArray, List.set_cons_zero, List.set_cons_succ] at s4_8_17
      have S4_8_17 := Lib.hid s4_8_17
      clear s4_8_17
      have s4_8 : ∀ wS : World, Grow W0 wS → ∀ g4 : Nat, ∀ g8 : Nat, Prts wS wS.heap.size (some ⟨g4, 0, none⟩) [d] → Prts wS wS.heap.size (some ⟨g8, 0, none⟩) [a] → wpR Grow Try.prog .any l'.toArray Q' 11 #[true, true, true, true, true, false, true, true, true, false, true, true, false, false, false, true, true, false, false, false, false, false, false] (Act.put (Act.put A0 (some 61) (.slice (some ⟨g4, 0, none⟩) 1 1)) (some 65) (.slice (some ⟨g8, 0, none⟩) 1 1)) wS := by
        intro wS hGS g4 g8 hB4 hB8
        subst hl hQ
        rw [hA]
        clear hA
        simp only [Act.put, List.setIfInBounds_toArray, List.set_cons_zero, List.set_cons_succ]
        refine wpR_three (i := 5) (j := 12) (k := 17) (by kernel_rfl) ?_ ?_ ?_
        · refine wpR_op (i := 5) rfl (by rfl) (fun K hK => ?_)
          go_simp
          refine (sum_v1 _ cs (tabF p) d wS MD HT.out (by rw [HLD.out]; omega) hbd.out hB4 HMD.out).mono ?_
          rintro e wM ⟨rfl, hM⟩
          refine hK.out _ _ hM ?_
          clear hK K
          try simp only [Act.put, List.setIfInBounds_toArray, List.set_cons_zero, List.set_cons_succ]
          refine wpR_to #[true, true, true, true, true, true, true, true, true, false, true, true, false, false, false, true, true, false, false, false, false, false, false] (by kernel_rfl) ?_
          exact S4_5_8.out wM (hGS.trans hM) g4 g8 (hB8.grow hM)
        · refine wpR_op (i := 12) rfl (by rfl) (fun K hK => ?_)
          go_simp
          refine hK.out _ _ (grow_new _ _) ?_
          clear hK K
          try simp only [Act.put, List.setIfInBounds_toArray, List.set_cons_zero, List.set_cons_succ]
          generalize hwM : World.alloc wS (Obj.cells _ 28) = wM
          have hM : Grow wS wM := by rw [← hwM]; exact grow_new _ _
          have hN : Prts wM wM.heap.size (some ⟨wS.heap.size, 0, none⟩) [b] := by
            rw [← hwM]
            exact prts_lit1 wS A2 n c2 b H2.out.symm E2.out (V2.out.grow hGS)
          refine wpR_to #[true, true, true, true, true, false, true, true, true, false, true, true, true, false, false, true, true, false, false, false, false, false, false] (by kernel_rfl) ?_
          exact S4_8_12.out wM (hGS.trans hM) g4 g8 wS.heap.size (hB4.grow hM) (hB8.grow hM) hN
        · refine wpR_op (i := 17) rfl (by rfl) (fun K hK => ?_)
          go_simp
          refine hK.out _ _ (grow_new _ _) ?_
          clear hK K
          try simp only [Act.put, List.setIfInBounds_toArray, List.set_cons_zero, List.set_cons_succ]
          generalize hwM : World.alloc wS (Obj.cells _ 28) = wM
          have hM : Grow wS wM := by rw [← hwM]; exact grow_new _ _
          have hN : Prts wM wM.heap.size (some ⟨wS.heap.size, 0, none⟩) [c] := by
            rw [← hwM]
            exact prts_lit1 wS A3 n c3 c H3.out.symm E3.out (V3.out.grow hGS)
          refine wpR_to #[true, true, true, true, true, false, true, true, true, false, true, true, false, false, false, true, true, true, false, false, false, false, false] (by kernel_rfl) ?_
          exact S4_8_17.out wM (hGS.trans hM) g4 g8 wS.heap.size (hB4.grow hM) (hB8.grow hM) hN
      simp only [hA, Act.put, List.setIfInBounds_toArray, List.set_cons_zero, List.set_cons_succ] at s4_8
      have S4_8 := Lib.hid s4_8
      clear s4_8
      have s4_12_17 : ∀ wS : World, Grow W0 wS → ∀ g4 : Nat, ∀ g12 : Nat, ∀ g17 : Nat, Prts wS wS.heap.size (some ⟨g4, 0, none⟩) [d] → Prts wS wS.heap.size (some ⟨g12, 0, none⟩) [b] → Prts wS wS.heap.size (some ⟨g17, 0, none⟩) [c] → wpR Grow Try.prog .any l'.toArray Q' 10 #[true, true, true, true, true, false, true, true, false, false, true, true, true, false, false, true, true, true, false, false, false, false, false] (Act.put (Act.put (Act.put A0 (some 61) (.slice (some ⟨g4, 0, none⟩) 1 1)) (some 69) (.slice (some ⟨g12, 0, none⟩) 1 1)) (some 74) (.slice (some ⟨g17, 0, none⟩) 1 1)) wS := by
        intro wS hGS g4 g12 g17 hB4 hB12 hB17
        subst hl hQ
        rw [hA]
        clear hA
        simp only [Act.put, List.setIfInBounds_toArray, List.set_cons_zero, List.set_cons_succ]
        refine wpR_two (i := 5) (j := 8) (by kernel_rfl) ?_ ?_
        · refine wpR_op (i := 5) rfl (by rfl) (fun K hK => ?_)
          go_simp
          refine (sum_v1 _ cs (tabF p) d wS MD HT.out (by rw [HLD.out]; omega) hbd.out hB4 HMD.out).mono ?_
          rintro e wM ⟨rfl, hM⟩
          refine hK.out _ _ hM ?_
          clear hK K
          try simp only [Act.put, List.setIfInBounds_toArray, List.set_cons_zero, List.set_cons_succ]
          refine wpR_to #[true, true, true, true, true, true, true, true, false, false, true, true, true, false, false, true, true, true, false, false, false, false, false] (by kernel_rfl) ?_
          exact S4_5_12_17.out wM (hGS.trans hM) g4 g12 g17 (hB12.grow hM) (hB17.grow hM)
        · refine wpR_op (i := 8) rfl (by rfl) (fun K hK => ?_)
          go_simp
          refine hK.out _ _ (grow_new _ _) ?_
          clear hK K
          try simp only [Act.put, List.setIfInBounds_toArray, List.set_cons_zero, List.set_cons_succ]
          generalize hwM : World.alloc wS (Obj.cells _ 28) = wM
          have hM : Grow wS wM := by rw [← hwM]; exact grow_new _ _
          have hN : Prts wM wM.heap.size (some ⟨wS.heap.size, 0, none⟩) [a] := by
            rw [← hwM]
            exact prts_lit1 wS A1 n c1 a H1.out.symm E1.out (V1.out.grow hGS)
          refine wpR_to #[true, true, true, true, true, false, true, true, true, false, true, true, true, false, false, true, true, true, false, false, false, false, false] (by kernel_rfl) ?_
          exact S4_8_12_17.out wM (hGS.trans hM) g4 wS.heap.size g12 g17 (hB4.grow hM) hN (hB12.grow hM) (hB17.grow hM)
      simp only [hA, Act.put, List.setIfInBounds_toArray, List.set_cons_zero, List.set_cons_succ] at s4_12_17
      have S4_12_17 := Lib.hid s4_12_17
      clear s4_12_17
      have s4_12 : ∀ wS : World, Grow W0 wS → ∀ g4 : Nat, ∀ g12 : Nat, Prts wS wS.heap.size (some ⟨g4, 0, none⟩) [d] → Prts wS wS.heap.size (some ⟨g12, 0, none⟩) [b] → wpR Grow Try.prog .any l'.toArray Q' 11 #[true, true, true, true, true, false, true, true, false, false, true, true, true, false, false, true, true, false, false, false, false, false, false] (Act.put (Act.put A0 (some 61) (.slice (some ⟨g4, 0, none⟩) 1 1)) (some 69) (.slice (some ⟨g12, 0, none⟩) 1 1)) wS := by
        intro wS hGS g4 g12 hB4 hB12
        subst hl hQ
        rw [hA]
        clear hA
        simp only [Act.put, List.setIfInBounds_toArray, List.set_cons_zero, List.set_cons_succ]
        refine wpR_three (i := 5) (j := 8) (k := 17) (by kernel_rfl) ?_ ?_ ?_
        · refine wpR_op (i := 5) rfl (by rfl) (fun K hK => ?_)
          go_simp
          refine (sum_v1 _ cs (tabF p) d wS MD HT.out (by rw [HLD.out]; omega) hbd.out hB4 HMD.out).mono ?_
          rintro e wM ⟨rfl, hM⟩
          refine hK.out _ _ hM ?_
          clear hK K
          try simp only [Act.put, List.setIfInBounds_toArray, List.set_cons_zero, List.set_cons_succ]
          refine wpR_to #[true, true, true, true, true, true, true, true, false, false, true, true, true, false, false, true, true, false, false, false, false, false, false] (by kernel_rfl) ?_
          exact S4_5_12.out wM (hGS.trans hM) g4 g12 (hB12.grow hM)
        · refine wpR_op (i := 8) rfl (by rfl) (fun K hK => ?_)
          go_simp
          refine hK.out _ _ (grow_new _ _) ?_
          clear hK K
          try simp only [Act.put, List.setIfInBounds_toArray, List.set_cons_zero, List.set_cons_succ]
          generalize hwM : World.alloc wS (Obj.cells _ 28) = wM
          have hM : Grow wS wM := by rw [← hwM]; exact grow_new _ _
          have hN : Prts wM wM.heap.size (some ⟨wS.heap.size, 0, none⟩) [a] := by
            rw [← hwM]
            exact prts_lit1 wS A1 n c1 a H1.out.symm E1.out (V1.out.grow hGS)
          refine wpR_to #[true, true, true, true, true, false, true, true, true, false, true, true, true, false, false, true, true, false, false, false, false, false, false] (by kernel_rfl) ?_
          exact S4_8_12.out wM (hGS.trans hM) g4 wS.heap.size g12 (hB4.grow hM) hN (hB12.grow hM)
        · refine wpR_op (i := 17) rfl (by rfl) (fun K hK => ?_)
          go_simp
          refine hK.out _ _ (grow_new _ _) ?_
          clear hK K
          try simp only [Act.put, List.setIfInBounds_toArray, List.set_cons_zero, List.set_cons_succ]
          generalize hwM : World.alloc wS (Obj.cells _ 28) = wM
          have hM : Grow wS wM := by rw [← hwM]; exact grow_new _ _
          have hN : Prts wM wM.heap.size (some ⟨wS.heap.size, 0, none⟩) [c] := by
            rw [← hwM]
            exact prts_lit1 wS A3 n c3 c H3.out.symm E3.out (V3.out.grow hGS)
          refine wpR_to #[true, true, true, true, true, false, true, true, false, false, true, true, true, false, false, true, true, true, false, false, false, false, false] (by kernel_rfl) ?_
          exact S4_12_17.out wM (hGS.trans hM) g4 g12 wS.heap.size (hB4.grow hM) (hB12.grow hM) hN
      simp only [hA, Act.put, List.setIfInBounds_toArray, List.set_cons_zero, List.set_cons_succ] at s4_12
      have S4_12 := Lib.hid s4_12
      clear s4_12
      have s4_17 : ∀ wS : World, Grow W0 wS → ∀ g4 : Nat, ∀ g17 : Nat, Prts wS wS.heap.size (some ⟨g4, 0, none⟩) [d] → Prts wS wS.heap.size (some ⟨g17, 0, none⟩) [c] → wpR Grow Try.prog .any l'.toArray Q' 11 #[true, true, true, true, true, false, true, true, false, false, true, true, false, false, false, true, true, true, false, false, false, false, false] (Act.put (Act.put A0 (some 61) (.slice (some ⟨g4, 0, none⟩) 1 1)) (some 74) (.slice (some ⟨g17, 0, none⟩) 1 1)) wS := by
        intro wS hGS g4 g17 hB4 hB17
        subst hl hQ
        rw [hA]
        clear hA
        simp only [Act.put, List.setIfInBounds_toArray, List.set_cons_zero, List.set_cons_succ]
        refine wpR_three (i := 5) (j := 8) (k := 12) (by kernel_rfl) ?_ ?_ ?_
        · refine wpR_op (i := 5) rfl (by rfl) (fun K hK => ?_)
          go_simp
          refine (sum_v1 _ cs (tabF p) d wS MD HT.out (by rw [HLD.out]; omega) hbd.out hB4 HMD.out).mono ?_
          rintro e wM ⟨rfl, hM⟩
          refine hK.out _ _ hM ?_
          clear hK K
          try simp only [Act.put, List.setIfInBounds_toArray, List.set_cons_zero, List.set_cons_succ]
          refine wpR_to #[true, true, true, true, true, true, true, true, false, false, true, true, false, false, false, true, true, true, false, false, false, false, false] (by kernel_rfl) ?_
          exact S4_5_17.out wM (hGS.trans hM) g4 g17 (hB17.grow hM)
        · refine wpR_op (i := 8) rfl (by rfl) (fun K hK => ?_)
          go_simp
          refine hK.out _ _ (grow_new _ _) ?_
          clear hK K
          try simp only [Act.put, List.setIfInBounds_toArray, List.set_cons_zero, List.set_cons_succ]
          generalize hwM : World.alloc wS (Obj.cells _ 28) = wM
          have hM : Grow wS wM := by rw [← hwM]; exact grow_new _ _
          have hN : Prts wM wM.heap.size (some ⟨wS.heap.size, 0, none⟩) [a] := by
            rw [← hwM]
            exact prts_lit1 wS A1 n c1 a H1.out.symm E1.out (V1.out.grow hGS)
          refine wpR_to #[true, true, true, true, true, false, true, true, true, false, true, true, false, false, false, true, true, true, false, false, false, false, false] (by kernel_rfl) ?_
          exact S4_8_17.out wM (hGS.trans hM) g4 wS.heap.size g17 (hB4.grow hM) hN (hB17.grow hM)
        · refine wpR_op (i := 12) rfl (by rfl) (fun K hK => ?_)
          go_simp
          refine hK.out _ _ (grow_new _ _) ?_
          clear hK K
          try simp only [Act.put, List.setIfInBounds_toArray, List.set_cons_zero, List.set_cons_succ]
          generalize hwM : World.alloc wS (Obj.cells _ 28) = wM
          have hM : Grow wS wM := by rw [← hwM]; exact grow_new _ _
          have hN : Prts wM wM.heap.size (some ⟨wS.heap.size, 0, none⟩) [b] := by
            rw [← hwM]
            exact prts_lit1 wS A2 n c2 b H2.out.symm E2.out (V2.out.grow hGS)
          refine wpR_to #[true, true, true, true, true, false, true, true, false, false, true, true, true, false, false, true, true, true, false, false, false, false, false] (by kernel_rfl) ?_
          exact S4_12_17.out wM (hGS.trans hM) g4 wS.heap.size g17 (hB4.grow hM) hN (hB17.grow hM)
      simp only [hA, Act.put, List.setIfInBounds_toArray, List.set_cons_zero, List.set_cons_succ] at s4_17
      have S4_17 := Lib.hid s4_17
      clear s4_17
      have s4 : ∀ wS : World, Grow W0 wS → ∀ g4 : Nat, Prts wS wS.heap.size (some ⟨g4, 0, none⟩) [d] → wpR Grow Try.prog .any l'.toArray Q' 12 #[true, true, true, true, true, false, true, true, false, false, true, true, false, false, false, true, true, false, false, false, false, false, false] (Act.put A0 (some 61) (.slice (some ⟨g4, 0, none⟩) 1 1)) wS := by
        intro wS hGS g4 hB4
        subst hl hQ
        rw [hA]
        clear hA
        simp only [Act.put, List.setIfInBounds_toArray, List.set_cons_zero, List.set_cons_succ]
        refine wpR_four (i := 5) (j := 8) (k := 12) (m := 17) (by kernel_rfl) ?_ ?_ ?_ ?_
        · refine wpR_op (i := 5) rfl (by rfl) (fun K hK => ?_)
          go_simp
          refine (sum_v1 _ cs (tabF p) d wS MD HT.out (by rw [HLD.out]; omega) hbd.out hB4 HMD.out).mono ?_
          rintro e wM ⟨rfl, hM⟩
          refine hK.out _ _ hM ?_
          clear hK K
          try simp only [Act.put, List.setIfInBounds_toArray, List.set_cons_zero, List.set_cons_succ]
          refine wpR_to #[true, true, true, true, true, true, true, true, false, false, true, true, false, false, false, true, true, false, false, false, false, false, false] (by kernel_rfl) ?_
          exact S4_5.out wM (hGS.trans hM) g4 
        · refine wpR_op (i := 8) rfl (by rfl) (fun K hK => ?_)
          go_simp
          refine hK.out _ _ (grow_new _ _) ?_
          clear hK K
          try simp only [Act.put, List.setIfInBounds_toArray, List.set_cons_zero, List.set_cons_succ]
          generalize hwM : World.alloc wS (Obj.cells _ 28) = wM
          have hM : Grow wS wM := by rw [← hwM]; exact grow_new _ _
          have hN : Prts wM wM.heap.size (some ⟨wS.heap.size, 0, none⟩) [a] := by
            rw [← hwM]
            exact prts_lit1 wS A1 n c1 a H1.out.symm E1.out (V1.out.grow hGS)
          refine wpR_to #[true, true, true, true, true, false, true, true, true, false, true, true, false, false, false, true, true, false, false, false, false, false, false] (by kernel_rfl) ?_
          exact S4_8.out wM (hGS.trans hM) g4 wS.heap.size (hB4.grow hM) hN
        · refine wpR_op (i := 12) rfl (by rfl) (fun K hK => ?_)
          go_simp
          refine hK.out _ _ (grow_new _ _) ?_
          clear hK K
          try simp only [Act.put, List.setIfInBounds_toArray, List.set_cons_zero, List.set_cons_succ]
          generalize hwM : World.alloc wS (Obj.cells _ 28) = wM
          have hM : Grow wS wM := by rw [← hwM]; exact grow_new _ _
          have hN : Prts wM wM.heap.size (some ⟨wS.heap.size, 0, none⟩) [b] := by
            rw [← hwM]
            exact prts_lit1 wS A2 n c2 b H2.out.symm E2.out (V2.out.grow hGS)
          refine wpR_to #[true, true, true, true, true, false, true, true, false, false, true, true, true, false, false, true, true, false, false, false, false, false, false] (by kernel_rfl) ?_
          exact S4_12.out wM (hGS.trans hM) g4 wS.heap.size (hB4.grow hM) hN
        · refine wpR_op (i := 17) rfl (by rfl) (fun K hK => ?_)
          go_simp
          refine hK.out _ _ (grow_new _ _) ?_
          clear hK K
          try simp only [Act.put, List.setIfInBounds_toArray, List.set_cons_zero, List.set_cons_succ]
          generalize hwM : World.alloc wS (Obj.cells _ 28) = wM
          have hM : Grow wS wM := by rw [← hwM]; exact grow_new _ _
          have hN : Prts wM wM.heap.size (some ⟨wS.heap.size, 0, none⟩) [c] := by
            rw [← hwM]
            exact prts_lit1 wS A3 n c3 c H3.out.symm E3.out (V3.out.grow hGS)
          refine wpR_to #[true, true, true, true, true, false, true, true, false, false, true, true, false, false, false, true, true, true, false, false, false, false, false] (by kernel_rfl) ?_
          exact S4_17.out wM (hGS.trans hM) g4 wS.heap.size (hB4.grow hM) hN
      simp only [hA, Act.put, List.setIfInBounds_toArray, List.set_cons_zero, List.set_cons_succ] at s4
      have S4 := Lib.hid s4
      clear s4
      have s8_12_17 : ∀ wS : World, Grow W0 wS → ∀ g8 : Nat, ∀ g12 : Nat, ∀ g17 : Nat, Prts wS wS.heap.size (some ⟨g8, 0, none⟩) [a] → Prts wS wS.heap.size (some ⟨g12, 0, none⟩) [b] → Prts wS wS.heap.size (some ⟨g17, 0, none⟩) [c] → wpR Grow Try.prog .any l'.toArray Q' 10 #[true, true, true, true, false, false, true, true, true, false, true, true, true, false, false, true, true, true, false, false, false, false, false] (Act.put (Act.put (Act.put A0 (some 65) (.slice (some ⟨g8, 0, none⟩) 1 1)) (some 69) (.slice (some ⟨g12, 0, none⟩) 1 1)) (some 74) (.slice (some ⟨g17, 0, none⟩) 1 1)) wS := by
        intro wS hGS g8 g12 g17 hB8 hB12 hB17
        subst hl hQ
        rw [hA]
        clear hA
        simp only [Act.put, List.setIfInBounds_toArray, List.set_cons_zero, List.set_cons_succ]
        refine wpR_one (i := 4) (by kernel_rfl) ?_
        refine wpR_op (i := 4) rfl (by rfl) (fun K hK => ?_)
        go_simp
        refine hK.out _ _ (grow_new _ _) ?_
        clear hK K
        try simp only [Act.put, List.setIfInBounds_toArray, List.set_cons_zero, List.set_cons_succ]
        generalize hwM : World.alloc wS (Obj.cells _ 28) = wM
        have hM : Grow wS wM := by rw [← hwM]; exact grow_new _ _
        have hN : Prts wM wM.heap.size (some ⟨wS.heap.size, 0, none⟩) [d] := by
          rw [← hwM]
          exact prts_lit1 wS Ad n cd d HLD.out.symm HED.out (VD.out.grow hGS)
        refine wpR_to #[true, true, true, true, true, false, true, true, true, false, true, true, true, false, false, true, true, true, false, false, false, false, false] (by kernel_rfl) ?_
        exact S4_8_12_17.out wM (hGS.trans hM) wS.heap.size g8 g12 g17 hN (hB8.grow hM) (hB12.grow hM) (hB17.grow hM)
      simp only [hA, Act.put, List.setIfInBounds_toArray, List.set_cons_zero, List.set_cons_succ] at s8_12_17
      have S8_12_17 := Lib.hid s8_12_17
      clear s8_12_17
      have s8_12 : ∀ wS : World, Grow W0 wS → ∀ g8 : Nat, ∀ g12 : Nat, Prts wS wS.heap.size (some ⟨g8, 0, none⟩) [a] → Prts wS wS.heap.size (some ⟨g12, 0, none⟩) [b] → wpR Grow Try.prog .any l'.toArray Q' 11 #[true, true, true, true, false, false, true, true, true, false, true, true, true, false, false, true, true, false, false, false, false, false, false] (Act.put (Act.put A0 (some 65) (.slice (some ⟨g8, 0, none⟩) 1 1)) (some 69) (.slice (some ⟨g12, 0, none⟩) 1 1)) wS := by
        intro wS hGS g8 g12 hB8 hB12
        subst hl hQ
        rw [hA]
        clear hA
        simp only [Act.put, List.setIfInBounds_toArray, List.set_cons_zero, List.set_cons_succ]
        refine wpR_two (i := 4) (j := 17) (by kernel_rfl) ?_ ?_
        · refine wpR_op (i := 4) rfl (by rfl) (fun K hK => ?_)
          go_simp
          refine hK.out _ _ (grow_new _ _) ?_
          clear hK K
          try simp only [Act.put, List.setIfInBounds_toArray, List.set_cons_zero, List.set_cons_succ]
          generalize hwM : World.alloc wS (Obj.cells _ 28) = wM
          have hM : Grow wS wM := by rw [← hwM]; exact grow_new _ _
          have hN : Prts wM wM.heap.size (some ⟨wS.heap.size, 0, none⟩) [d] := by
            rw [← hwM]
            exact prts_lit1 wS Ad n cd d HLD.out.symm HED.out (VD.out.grow hGS)
          refine wpR_to #[true, true, true, true, true, false, true, true, true, false, true, true, true, false, false, true, true, false, false, false, false, false, false] (by kernel_rfl) ?_
          exact S4_8_12.out wM (hGS.trans hM) wS.heap.size g8 g12 hN (hB8.grow hM) (hB12.grow hM)
        · refine wpR_op (i := 17) rfl (by rfl) (fun K hK => ?_)
          go_simp
          refine hK.out _ _ (grow_new _ _) ?_
          clear hK K
          try simp only [Act.put, List.setIfInBounds_toArray, List.set_cons_zero, List.set_cons_succ]
          generalize hwM : World.alloc wS (Obj.cells _ 28) = wM
          have hM : Grow wS wM := by rw [← hwM]; exact grow_new _ _
          have hN : Prts wM wM.heap.size (some ⟨wS.heap.size, 0, none⟩) [c] := by
            rw [← hwM]
            exact prts_lit1 wS A3 n c3 c H3.out.symm E3.out (V3.out.grow hGS)
          refine wpR_to #[true, true, true, true, false, false, true, true, true, false, true, true, true, false, false, true, true, true, false, false, false, false, false] (by kernel_rfl) ?_
          exact S8_12_17.out wM (hGS.trans hM) g8 g12 wS.heap.size (hB8.grow hM) (hB12.grow hM) hN
      simp only [hA, Act.put, List.setIfInBounds_toArray, List.set_cons_zero, List.set_cons_succ] at s8_12
      have S8_12 := Lib.hid s8_12
      clear s8_12
      have s8_17 : ∀ wS : World, Grow W0 wS → ∀ g8 : Nat, ∀ g17 : Nat, Prts wS wS.heap.size (some ⟨g8, 0, none⟩) [a] → Prts wS wS.heap.size (some ⟨g17, 0, none⟩) [c] → wpR Grow Try.prog .any l'.toArray Q' 11 #[true, true, true, true, false, false, true, true, true, false, true, true, false, false, false, true, true, true, false, false, false, false, false] (Act.put (Act.put A0 (some 65) (.slice (some ⟨g8, 0, none⟩) 1 1)) (some 74) (.slice (some ⟨g17, 0, none⟩) 1 1)) wS := by
        intro wS hGS g8 g17 hB8 hB17
        subst hl hQ
        rw [hA]
        clear hA
        simp only [Act.put, List.setIfInBounds_toArray, List.set_cons_zero, List.set_cons_succ]
        refine wpR_two (i := 4) (j := 12) (by kernel_rfl) ?_ ?_
        · refine wpR_op (i := 4) rfl (by rfl) (fun K hK => ?_)
          go_simp
          refine hK.out _ _ (grow_new _ _) ?_
          clear hK K
          try simp only [Act.put, List.setIfInBounds_toArray, List.set_cons_zero, List.set_cons_succ]
          generalize hwM : World.alloc wS (Obj.cells _ 28) = wM
          have hM : Grow wS wM := by rw [← hwM]; exact grow_new _ _
          have hN : Prts wM wM.heap.size (some ⟨wS.heap.size, 0, none⟩) [d] := by
            rw [← hwM]
            exact prts_lit1 wS Ad n cd d HLD.out.symm HED.out (VD.out.grow hGS)
          refine wpR_to #[true, true, true, true, true, false, true, true, true, false, true, true, false, false, false, true, true, true, false, false, false, false, false] (by kernel_rfl) ?_
          exact S4_8_17.out wM (hGS.trans hM) wS.heap.size g8 g17 hN (hB8.grow hM) (hB17.grow hM)
        · refine wpR_op (i := 12) rfl (by rfl) (fun K hK => ?_)
          go_simp
          refine hK.out _ _ (grow_new _ _) ?_
          clear hK K
          try simp only [Act.put, List.setIfInBounds_toArray, List.set_cons_zero, List.set_cons_succ]
          generalize hwM : World.alloc wS (Obj.cells _ 28) = wM
          have hM : Grow wS wM := by rw [← hwM]; exact grow_new _ _
          have hN : Prts wM wM.heap.size (some ⟨wS.heap.size, 0, none⟩) [b] := by
            rw [← hwM]
            exact prts_lit1 wS A2 n c2 b H2.out.symm E2.out (V2.out.grow hGS)
          refine wpR_to #[true, true, true, true, false, false, true, true, true, false, true, true, true, false, false, true, true, true, false, false, false, false, false] (by kernel_rfl) ?_
          exact S8_12_17.out wM (hGS.trans hM) g8 wS.heap.size g17 (hB8.grow hM) hN (hB17.grow hM)
      simp only [hA, Act.put, List.setIfInBounds_toArray, List.set_cons_zero, List.set_cons_succ] at s8_17
      have S8_17 := Lib.hid s8_17
      clear s8_17
      have s8 : ∀ wS : World, Grow W0 wS → ∀ g8 : Nat, Prts wS wS.heap.size (some ⟨g8, 0, none⟩) [a] → wpR Grow Try.prog .any l'.toArray Q' 12 #[true, true, true, true, false, false, true, true, true, false, true, true, false, false, false, true, true, false, false, false, false, false, false] (Act.put A0 (some 65) (.slice (some ⟨g8, 0, none⟩) 1 1)) wS := by
        intro wS hGS g8 hB8
        subst hl hQ
        rw [hA]
        clear hA
        simp only [Act.put, List.setIfInBounds_toArray, List.set_cons_zero, List.set_cons_succ]
        refine wpR_three (i := 4) (j := 12) (k := 17) (by kernel_rfl) ?_ ?_ ?_
        · refine wpR_op (i := 4) rfl (by rfl) (fun K hK => ?_)
          go_simp
          refine hK.out _ _ (grow_new _ _) ?_
          clear hK K
          try simp only [Act.put, List.setIfInBounds_toArray, List.set_cons_zero, List.set_cons_succ]
          generalize hwM : World.alloc wS (Obj.cells _ 28) = wM
          have hM : Grow wS wM := by rw [← hwM]; exact grow_new _ _
          have hN : Prts wM wM.heap.size (some ⟨wS.heap.size, 0, none⟩) [d] := by
            rw [← hwM]
            exact prts_lit1 wS Ad n cd d HLD.out.symm HED.out (VD.out.grow hGS)
          refine wpR_to #[true, true, true, true, true, false, true, true, true, false, true, true, false, false, false, true, true, false, false, false, false, false, false] (by kernel_rfl) ?_
          exact S4_8.out wM (hGS.trans hM) wS.heap.size g8 hN (hB8.grow hM)
        · refine wpR_op (i := 12) rfl (by rfl) (fun K hK => ?_)
          go_simp
          refine hK.out _ _ (grow_new _ _) ?_
          clear hK K
          try simp only [Act.put, List.setIfInBounds_toArray, List.set_cons_zero, List.set_cons_succ]
          generalize hwM : World.alloc wS (Obj.cells _ 28) = wM
          have hM : Grow wS wM := by rw [← hwM]; exact grow_new _ _
          have hN : Prts wM wM.heap.size (some ⟨wS.heap.size, 0, none⟩) [b] := by
            rw [← hwM]
            exact prts_lit1 wS A2 n c2 b H2.out.symm E2.out (V2.out.grow hGS)
          refine wpR_to #[true, true, true, true, false, false, true, true, true, false, true, true, true, false, false, true, true, false, false, false, false, false, false] (by kernel_rfl) ?_
          exact S8_12.out wM (hGS.trans hM) g8 wS.heap.size (hB8.grow hM) hN
        · refine wpR_op (i := 17) rfl (by rfl) (fun K hK => ?_)
          go_simp
          refine hK.out _ _ (grow_new _ _) ?_
          clear hK K
          try simp only [Act.put, List.setIfInBounds_toArray, List.set_cons_zero, List.set_cons_succ]
          generalize hwM : World.alloc wS (Obj.cells _ 28) = wM
          have hM : Grow wS wM := by rw [← hwM]; exact grow_new _ _
          have hN : Prts wM wM.heap.size (some ⟨wS.heap.size, 0, none⟩) [c] := by
            rw [← hwM]
            exact prts_lit1 wS A3 n c3 c H3.out.symm E3.out (V3.out.grow hGS)
          refine wpR_to #[true, true, true, true, false, false, true, true, true, false, true, true, false, false, false, true, true, true, false, false, false, false, false] (by kernel_rfl) ?_
          exact S8_17.out wM (hGS.trans hM) g8 wS.heap.size (hB8.grow hM) hN
      simp only [hA, Act.put, List.setIfInBounds_toArray, List.set_cons_zero, List.set_cons_succ] at s8
      have S8 := Lib.hid s8
      clear s8
      have s12_17 : ∀ wS : World, Grow W0 wS → ∀ g12 : Nat, ∀ g17 : Nat, Prts wS wS.heap.size (some ⟨g12, 0, none⟩) [b] → Prts wS wS.heap.size (some ⟨g17, 0, none⟩) [c] → wpR Grow Try.prog .any l'.toArray Q' 11 #[true, true, true, true, false, false, true, true, false, false, true, true, true, false, false, true, true, true, false, false, false, false, false] (Act.put (Act.put A0 (some 69) (.slice (some ⟨g12, 0, none⟩) 1 1)) (some 74) (.slice (some ⟨g17, 0, none⟩) 1 1)) wS := by
        intro wS hGS g12 g17 hB12 hB17
        subst hl hQ
        rw [hA]
        clear hA
        simp only [Act.put, List.setIfInBounds_toArray, List.set_cons_zero, List.set_cons_succ]
        refine wpR_two (i := 4) (j := 8) (by kernel_rfl) ?_ ?_
        · refine wpR_op (i := 4) rfl (by rfl) (fun K hK => ?_)
          go_simp
          refine hK.out _ _ (grow_new _ _) ?_
          clear hK K
          try simp only [Act.put, List.setIfInBounds_toArray, List.set_cons_zero, List.set_cons_succ]
          generalize hwM : World.alloc wS (Obj.cells _ 28) = wM
          have hM : Grow wS wM := by rw [← hwM]; exact grow_new _ _
          have hN : Prts wM wM.heap.size (some ⟨wS.heap.size, 0, none⟩) [d] := by
            rw [← hwM]
            exact prts_lit1 wS Ad n cd d HLD.out.symm HED.out (VD.out.grow hGS)
          refine wpR_to #[true, true, true, true, true, false, true, true, false, false, true, true, true, false, false, true, true, true, false, false, false, false, false] (by kernel_rfl) ?_
          exact S4_12_17.out wM (hGS.trans hM) wS.heap.size g12 g17 hN (hB12.grow hM) (hB17.grow hM)
        · refine wpR_op (i := 8) rfl (by rfl) (fun K hK => ?_)
          go_simp
          refine hK.out _ _ (grow_new _ _) ?_
          clear hK K
          try simp only [Act.put, List.setIfInBounds_toArray, List.set_cons_zero, List.set_cons_succ]
          generalize hwM : World.alloc wS (Obj.cells _ 28) = wM
          have hM : Grow wS wM := by rw [← hwM]; exact grow_new _ _
          have hN : Prts wM wM.heap.size (some ⟨wS.heap.size, 0, none⟩) [a] := by
            rw [← hwM]
            exact prts_lit1 wS A1 n c1 a H1.out.symm E1.out (V1.out.grow hGS)
          refine wpR_to #[true, true, true, true, false, false, true, true, true, false, true, true, true, false, false, true, true, true, false, false, false, false, false] (by kernel_rfl) ?_
          exact S8_12_17.out wM (hGS.trans hM) wS.heap.size g12 g17 hN (hB12.grow hM) (hB17.grow hM)
      simp only [hA, Act.put, List.setIfInBounds_toArray, List.set_cons_zero, List.set_cons_succ] at s12_17
      have S12_17 := Lib.hid s12_17
      clear s12_17
      have s12 : ∀ wS : World, Grow W0 wS → ∀ g12 : Nat, Prts wS wS.heap.size (some ⟨g12, 0, none⟩) [b] → wpR Grow Try.prog .any l'.toArray Q' 12 #[true, true, true, true, false, false, true, true, false, false, true, true, true, false, false, true, true, false, false, false, false, false, false] (Act.put A0 (some 69) (.slice (some ⟨g12, 0, none⟩) 1 1)) wS := by
        intro wS hGS g12 hB12
        subst hl hQ
        rw [hA]
        clear hA
        simp only [Act.put, List.setIfInBounds_toArray, List.set_cons_zero, List.set_cons_succ]
        refine wpR_three (i := 4) (j := 8) (k := 17) (by kernel_rfl) ?_ ?_ ?_
        · refine wpR_op (i := 4) rfl (by rfl) (fun K hK => ?_)
          go_simp
          refine hK.out _ _ (grow_new _ _) ?_
          clear hK K
          try simp only [Act.put, List.setIfInBounds_toArray, List.set_cons_zero, List.set_cons_succ]
          generalize hwM : World.alloc wS (Obj.cells _ 28) = wM
          have hM : Grow wS wM := by rw [← hwM]; exact grow_new _ _
          have hN : Prts wM wM.heap.size (some ⟨wS.heap.size, 0, none⟩) [d] := by
            rw [← hwM]
            exact prts_lit1 wS Ad n cd d HLD.out.symm HED.out (VD.out.grow hGS)
          refine wpR_to #[true, true, true, true, true, false, true, true, false, false, true, true, true, false, false, true, true, false, false, false, false, false, false] (by kernel_rfl) ?_
          exact S4_12.out wM (hGS.trans hM) wS.heap.size g12 hN (hB12.grow hM)
        · refine wpR_op (i := 8) rfl (by rfl) (fun K hK => ?_)
          go_simp
          refine hK.out _ _ (grow_new _ _) ?_
          clear hK K
          try simp only [Act.put, List.setIfInBounds_toArray, List.set_cons_zero, List.set_cons_succ]
          generalize hwM : World.alloc wS (Obj.cells _ 28) = wM
          have hM : Grow wS wM := by rw [← hwM]; exact grow_new _ _
          have hN : Prts wM wM.heap.size (some ⟨wS.heap.size, 0, none⟩) [a] := by
            rw [← hwM]
            exact prts_lit1 wS A1 n c1 a H1.out.symm E1.out (V1.out.grow hGS)
          refine wpR_to #[true, true, true, true, false, false, true, true, true, false, true, true, true, false, false, true, true, false, false, false, false, false, false] (by kernel_rfl) ?_
          exact S8_12.out wM (hGS.trans hM) wS.heap.size g12 hN (hB12.grow hM)
        · refine wpR_op (i := 17) rfl (by rfl) (fun K hK => ?_)
          go_simp
          refine hK.out _ _ (grow_new _ _) ?_
          clear hK K
          try simp only [Act.put, List.setIfInBounds_toArray, List.set_cons_zero, List.set_cons_succ]
          generalize hwM : World.alloc wS (Obj.cells _ 28) = wM
          have hM : Grow wS wM := by rw [← hwM]; exact grow_new _ _
          have hN : Prts wM wM.heap.size (some ⟨wS.heap.size, 0, none⟩) [c] := by
            rw [← hwM]
            exact prts_lit1 wS A3 n c3 c H3.out.symm E3.out (V3.out.grow hGS)
          refine wpR_to #[true, true, true, true, false, false, true, true, false, false, true, true, true, false, false, true, true, true, false, false, false, false, false] (by kernel_rfl) ?_
          exact S12_17.out wM (hGS.trans hM) g12 wS.heap.size (hB12.grow hM) hN
      simp only [hA, Act.put, List.setIfInBounds_toArray, List.set_cons_zero, List.set_cons_succ] at s12
      have S12 := Lib.hid s12
      clear s12
      have s17 : ∀ wS : World, Grow W0 wS → ∀ g17 : Nat, Prts wS wS.heap.size (some ⟨g17, 0, none⟩) [c] → wpR Grow Try.prog .any l'.toArray Q' 12 #[true, true, true, true, false, false, true, true, false, false, true, true, false, false, false, true, true, true, false, false, false, false, false] (Act.put A0 (some 74) (.slice (some ⟨g17, 0, none⟩) 1 1)) wS := by
        intro wS hGS g17 hB17
        subst hl hQ
        rw [hA]
        clear hA
        simp only [Act.put, List.setIfInBounds_toArray, List.set_cons_zero, List.set_cons_succ]
        refine wpR_three (i := 4) (j := 8) (k := 12) (by kernel_rfl) ?_ ?_ ?_
        · refine wpR_op (i := 4) rfl (by rfl) (fun K hK => ?_)
          go_simp
          refine hK.out _ _ (grow_new _ _) ?_
          clear hK K
          try simp only [Act.put, List.setIfInBounds_toArray, List.set_cons_zero, List.set_cons_succ]
          generalize hwM : World.alloc wS (Obj.cells _ 28) = wM
          have hM : Grow wS wM := by rw [← hwM]; exact grow_new _ _
          have hN : Prts wM wM.heap.size (some ⟨wS.heap.size, 0, none⟩) [d] := by
            rw [← hwM]
            exact prts_lit1 wS Ad n cd d HLD.out.symm HED.out (VD.out.grow hGS)
          refine wpR_to #[true, true, true, true, true, false, true, true, false, false, true, true, false, false, false, true, true, true, false, false, false, false, false] (by kernel_rfl) ?_
          exact S4_17.out wM (hGS.trans hM) wS.heap.size g17 hN (hB17.grow hM)
        · refine wpR_op (i := 8) rfl (by rfl) (fun K hK => ?_)
          go_simp
          refine hK.out _ _ (grow_new _ _) ?_
          clear hK K
          try simp only [Act.put, List.setIfInBounds_toArray, List.set_cons_zero, List.set_cons_succ]
          generalize hwM : World.alloc wS (Obj.cells _ 28) = wM
          have hM : Grow wS wM := by rw [← hwM]; exact grow_new _ _
          have hN : Prts wM wM.heap.size (some ⟨wS.heap.size, 0, none⟩) [a] := by
            rw [← hwM]
            exact prts_lit1 wS A1 n c1 a H1.out.symm E1.out (V1.out.grow hGS)
          refine wpR_to #[true, true, true, true, false, false, true, true, true, false, true, true, false, false, false, true, true, true, false, false, false, false, false] (by kernel_rfl) ?_
          exact S8_17.out wM (hGS.trans hM) wS.heap.size g17 hN (hB17.grow hM)
        · refine wpR_op (i := 12) rfl (by rfl) (fun K hK => ?_)
          go_simp
          refine hK.out _ _ (grow_new _ _) ?_
          clear hK K
          try simp only [Act.put, List.setIfInBounds_toArray, List.set_cons_zero, List.set_cons_succ]
          generalize hwM : World.alloc wS (Obj.cells _ 28) = wM
          have hM : Grow wS wM := by rw [← hwM]; exact grow_new _ _
          have hN : Prts wM wM.heap.size (some ⟨wS.heap.size, 0, none⟩) [b] := by
            rw [← hwM]
            exact prts_lit1 wS A2 n c2 b H2.out.symm E2.out (V2.out.grow hGS)
          refine wpR_to #[true, true, true, true, false, false, true, true, false, false, true, true, true, false, false, true, true, true, false, false, false, false, false] (by kernel_rfl) ?_
          exact S12_17.out wM (hGS.trans hM) wS.heap.size g17 hN (hB17.grow hM)
      simp only [hA, Act.put, List.setIfInBounds_toArray, List.set_cons_zero, List.set_cons_succ] at s17
      have S17 := Lib.hid s17
      clear s17
      have s0 : ∀ wS : World, Grow W0 wS → wpR Grow Try.prog .any l'.toArray Q' 13 #[true, true, true, true, false, false, true, true, false, false, true, true, false, false, false, true, true, false, false, false, false, false, false] A0 wS := by
        intro wS hGS  
        subst hl hQ
        rw [hA]
        clear hA
        refine wpR_four (i := 4) (j := 8) (k := 12) (m := 17) (by kernel_rfl) ?_ ?_ ?_ ?_
        · refine wpR_op (i := 4) rfl (by rfl) (fun K hK => ?_)
          go_simp
          refine hK.out _ _ (grow_new _ _) ?_
          clear hK K
          try simp only [Act.put, List.setIfInBounds_toArray, List.set_cons_zero, List.set_cons_succ]
          generalize hwM : World.alloc wS (Obj.cells _ 28) = wM
          have hM : Grow wS wM := by rw [← hwM]; exact grow_new _ _
          have hN : Prts wM wM.heap.size (some ⟨wS.heap.size, 0, none⟩) [d] := by
            rw [← hwM]
            exact prts_lit1 wS Ad n cd d HLD.out.symm HED.out (VD.out.grow hGS)
          refine wpR_to #[true, true, true, true, true, false, true, true, false, false, true, true, false, false, false, true, true, false, false, false, false, false, false] (by kernel_rfl) ?_
          exact S4.out wM (hGS.trans hM) wS.heap.size hN
        · refine wpR_op (i := 8) rfl (by rfl) (fun K hK => ?_)
          go_simp
          refine hK.out _ _ (grow_new _ _) ?_
          clear hK K
          try simp only [Act.put, List.setIfInBounds_toArray, List.set_cons_zero, List.set_cons_succ]
          generalize hwM : World.alloc wS (Obj.cells _ 28) = wM
          have hM : Grow wS wM := by rw [← hwM]; exact grow_new _ _
          have hN : Prts wM wM.heap.size (some ⟨wS.heap.size, 0, none⟩) [a] := by
            rw [← hwM]
            exact prts_lit1 wS A1 n c1 a H1.out.symm E1.out (V1.out.grow hGS)
          refine wpR_to #[true, true, true, true, false, false, true, true, true, false, true, true, false, false, false, true, true, false, false, false, false, false, false] (by kernel_rfl) ?_
          exact S8.out wM (hGS.trans hM) wS.heap.size hN
        · refine wpR_op (i := 12) rfl (by rfl) (fun K hK => ?_)
          go_simp
          refine hK.out _ _ (grow_new _ _) ?_
          clear hK K
          try simp only [Act.put, List.setIfInBounds_toArray, List.set_cons_zero, List.set_cons_succ]
          generalize hwM : World.alloc wS (Obj.cells _ 28) = wM
          have hM : Grow wS wM := by rw [← hwM]; exact grow_new _ _
          have hN : Prts wM wM.heap.size (some ⟨wS.heap.size, 0, none⟩) [b] := by
            rw [← hwM]
            exact prts_lit1 wS A2 n c2 b H2.out.symm E2.out (V2.out.grow hGS)
          refine wpR_to #[true, true, true, true, false, false, true, true, false, false, true, true, true, false, false, true, true, false, false, false, false, false, false] (by kernel_rfl) ?_
          exact S12.out wM (hGS.trans hM) wS.heap.size hN
        · refine wpR_op (i := 17) rfl (by rfl) (fun K hK => ?_)
          go_simp
          refine hK.out _ _ (grow_new _ _) ?_
          clear hK K
          try simp only [Act.put, List.setIfInBounds_toArray, List.set_cons_zero, List.set_cons_succ]
          generalize hwM : World.alloc wS (Obj.cells _ 28) = wM
          have hM : Grow wS wM := by rw [← hwM]; exact grow_new _ _
          have hN : Prts wM wM.heap.size (some ⟨wS.heap.size, 0, none⟩) [c] := by
            rw [← hwM]
            exact prts_lit1 wS A3 n c3 c H3.out.symm E3.out (V3.out.grow hGS)
          refine wpR_to #[true, true, true, true, false, false, true, true, false, false, true, true, false, false, false, true, true, true, false, false, false, false, false] (by kernel_rfl) ?_
          exact S17.out wM (hGS.trans hM) wS.heap.size hN
      refine wpR_to #[true, true, true, true, false, false, true, true, false, false, true, true, false, false, false, true, true, false, false, false, false, false, false] (by kernel_rfl) ?_
      exact s0 W0 (Grow.refl W0)
end Go.Proofs.Ytbpdjohbbhblcaa
