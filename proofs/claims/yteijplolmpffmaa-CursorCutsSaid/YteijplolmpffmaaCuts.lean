/-
  The law CursorCuts at every input.
-/
import Derived.Test.YteijplolmpffmaaPairs
import Derived.Maps.AppendAt
namespace Go.Proofs.Yteijplolmpffmaa
open Go.RowKit

theorem wpList_append_at {ops : Array Oper} {rest : List Oper} {o : Oper} {a : Act} {w : World} {Q : Exit → Act → World → Prop} (hgd : o.guard = none) (s x : Operand)
    (ho : o.op = .call { callee := .builtin .append, args := #[s, x], argTypes := #[22, 22] }) (base : Nat) (v : Value) (n m c : Nat) (q p : List Int) (A : Option Addr) (B : Nat)
    (hs : a.eval s = v) (hown : w.ownsRow base 5 1 v n (u8s q)) (hx : a.eval x = .slice A m c) (hm : m = p.length) (hc : A = none → c = 0) (hr : Nums .u8 w B A p) (hb : n + m ≤ 140737488355328) (hbase : base ≤ w.heap.size)
    (h : ∀ v' w', w'.ownsRow base 5 1 v' (n + m) (u8s (q ++ p)) → Kept (fun k => v.ownBlock = some k) w w' → (v'.ownBlock = v.ownBlock ∨ v'.ownBlock = some w.heap.size) → wpList Try.prog ops Q rest (a.put o.dst v') w') : wpList Try.prog ops Q (o :: rest) a w := by
  obtain ⟨i0, hi, hz0, hz1, hz2⟩ := info_parts info5
  cases A with
  | none =>
    have hp := nil_of_none hr
    have hc0 := hc rfl
    subst hp hm hc0
    refine wpList_append_own_none hgd s x 22 ho base 5 i0 1 Try.underlying22 hi v n (u8s q) hs hown hx (h v w ?_ (Kept.refl _ _) (.inl rfl))
    rw [List.append_nil]
    exact hown
  | some ad =>
    subst hm
    refine wpList_append_own_at w hgd s x 22 ho base 5 i0 (.int .u8 0) 1 1 Try.underlying22 hi hz0 hz1 hz2 rfl (by decide) v n (u8s q) hs hown ad p.length c (u8s p) hx (by rw [u8s_len]; omega) (nums_news hr) (u8s_one p) (by unfold maxLen; omega) (by omega) hbase ?_
    intro v' w' hown' hgrow _ hat
    exact h v' w' (by rw [u8s_app]; exact hown') ⟨hgrow.os, hgrow.tape, hgrow.output, hgrow.size, fun k hk hne => hgrow.block k hk (fun e => hne e.symm)⟩ hat

theorem own_kept {T : Nat → Prop} {w w' : World} {base n : Nat} {v : Value} {xs : List Value} (h : w.ownsRow base 5 1 v n xs) (hk : Kept T w w') (hT : ∀ k, v.ownBlock = some k → ¬ T k) : w'.ownsRow base 5 1 v n xs := by
  refine ⟨h.1, ?_⟩
  rcases h.2 with h0 | ⟨g, cap, cur, rfl, hbg, hgg, rest⟩
  · exact .inl h0
  · exact .inr ⟨g, cap, cur, rfl, hbg, (hk.block g (Array.getElem?_eq_some_iff.1 hgg).1 (hT g rfl)).trans hgg, rest⟩

/-- a row of one's own: where it lies -/
theorem own_in {w w1 w2 : World} {v : Value} {n : Nat} {bs : List Int} (h : w2.ownsRow w.heap.size 5 1 v (0 + n) (u8s ([] ++ bs))) (hw : Grow w w1) (hlt : w.heap.size < w1.heap.size) (hb : Below w.heap.size w1 w2) :
    ∃ A cap b, v = .slice A n cap ∧ (A = none → cap = 0) ∧ Nums .u8 w2 w2.heap.size A bs ∧ Grow w w2 ∧ w.heap.size ≤ b ∧ b < w2.heap.size ∧ (0 < n → A = some ⟨b, 0, none⟩ ∧ ∃ cur, w2.heap[b]? = some (.cells cur 5 (0, 0)) ∧ n ≤ cur.size) := by
  rw [Nat.zero_add, List.nil_append] at h
  have hN := own_nums h
  rcases h.2 with ⟨hv, hn⟩ | ⟨g, cap, cur, hv, hbg, hgg, hnc, _, hsz, _⟩
  · obtain ⟨A3, c3, rfl, hA3, hN3, _⟩ := hN
    exact ⟨A3, c3, w.heap.size, rfl, hA3, hN3, Below.trans hw hb, Nat.le_refl _, Nat.lt_of_lt_of_le hlt hb.size, fun h => by omega⟩
  · obtain ⟨A3, c3, rfl, hA3, hN3, _⟩ := hN
    cases hv
    exact ⟨_, _, g, rfl, hA3, hN3, Below.trans hw hb, hbg, (Array.getElem?_eq_some_iff.1 hgg).1, fun _ => ⟨rfl, cur, hgg, by omega⟩⟩

theorem own_form {w : World} {base n : Nat} {v : Value} {xs : List Value} (h : w.ownsRow base 5 1 v n xs) (hn : 0 < n) : ∃ g cap, v = .slice (some ⟨g, 0, none⟩) n cap ∧ base ≤ g ∧ ∃ cur, w.heap[g]? = some (.cells cur 5 (0, 0)) ∧ n ≤ cur.size := by
  rcases h.2 with ⟨_, h0⟩ | ⟨g, cap, cur, hv, hb, hg, hnc, _, hsz, _⟩
  · omega
  · exact ⟨g, cap, hv, hb, cur, hg, by omega⟩

theorem row_set {w : World} {b k n : Nat} {v : Value} (h : ∃ cur, w.heap[b]? = some (.cells cur 5 (0, 0)) ∧ n ≤ cur.size) : ∃ cur, (w.setCell ⟨b, k, none⟩ v).heap[b]? = some (.cells cur 5 (0, 0)) ∧ n ≤ cur.size := by
  obtain ⟨cur, h1, h2⟩ := h
  exact ⟨_, heap_setCell_same w b k cur 5 v h1, by simpa using h2⟩
theorem row_cell {w : World} {b k n : Nat} (h : ∃ cur, w.heap[b]? = some (.cells cur 5 (0, 0)) ∧ n ≤ cur.size) (hk : k < n) : (∃ v, w.cell? ⟨b, k, none⟩ = some v) ∧ w.frozen? ⟨b, k, none⟩ = false := by
  obtain ⟨cur, h1, h2⟩ := h
  refine ⟨⟨cur[k]'(by omega), ?_⟩, frozen_of_row w b k cur 5 h1⟩
  rw [cell_of_row w b k cur 5 (0, 0) h1]
  simp [show k < cur.size by omega]

set_option maxRecDepth 10000 in
set_option maxHeartbeats 800000 in
theorem cuts_no (A1 A2 : Option Addr) (n m c1 c2 : Nat) (w : World) (h1 : n ≤ 9223372036854775807) (h2 : m ≤ 9223372036854775807) (h : ¬ (n ≤ 500 ∧ m ≤ 100)) :
    Calls Try.prog 6 #[.slice A1 n c1, .slice A2 m c2] w (Fine w) := by
  have HS := Lib.hid (small_any w)
  have hcase : 500 < n ∨ (n ≤ 500 ∧ 100 < m) := by omega
  clear h
  rcases hcase with hn | ⟨hn, hm⟩
  all_goals
    go_enter Try.func6, Try.ntmps6
    go_wp2_with fail
    refine (HS.out).mono ?_
    rintro e w1 ⟨rfl, hb1⟩
    go_wp2
    go_ret
    exact ⟨rfl, hb1⟩

theorem cut_take (bs : List Int) (t y n : Nat) (h : bs.length = n) (hy : y ≤ n - t) : takeS (y : Int) ⟨bs.drop t, t, 0, 0⟩ = ((bs.drop t).take y, ⟨bs.drop (t + y), ((t + y : Nat) : Int), 0, 0⟩) := by
  unfold takeS
  rw [if_neg (by simp [h]; omega)]
  simp [passS]
theorem cut_good (bs : List Int) (t n : Nat) (h : bs.length = n) (hn : n ≤ 500) (ht : t ≤ n) (hb : Byt bs) : Good ⟨bs.drop t, t, 0, 0⟩ :=
  ⟨hb.drop t, by show (0 : Int) ≤ (t : Int); omega, by show (t : Int) + ((bs.drop t).length : Nat) ≤ _; rw [List.length_drop, h]; omega, fun h => absurd rfl h⟩
theorem cut_join (bs : List Int) (t y : Nat) : bs.take t ++ (bs.drop t).take y = bs.take (t + y) := (List.take_add).symm

set_option linter.unusedSimpArgs false
set_option maxRecDepth 10000 in
set_option maxHeartbeats 6400000 in
theorem cuts_yes (A1 A2 : Option Addr) (n m c1 c2 : Nat) (bs l : List Int) (w : World) (h1 : bs.length = n) (h2 : l.length = m) (hn : n ≤ 500) (hm : m ≤ 100) (e1 : A1 = none → c1 = 0) (hcap1 : n ≤ c1)
    (b1 : Byt bs) (r1 : Nums .u8 w w.heap.size A1 bs) (r2 : Nums .i64 w w.heap.size A2 l) : Calls Try.prog 6 #[.slice A1 n c1, .slice A2 m c2] w (Fine w) := by
  have HS := Lib.hid (small_any w)
  have H1 := Lib.hid h1
  have H2 := Lib.hid h2
  have R1 := Lib.hid r1
  have R2 := Lib.hid r2
  have B1 := Lib.hid b1
  clear h1 h2 r1 r2 b1
  go_enter Try.func6, Try.ntmps6
  go_wp2_with fail
  refine (HS.out).mono ?_
  rintro e w1 ⟨rfl, hb1⟩
  have R1' := Lib.hid ((R1.out.grow hb1).grow (grow_new w1 (.cells #[] 5)))
  have HE := Lib.hid (own_empty w1)
  have hz1 := hb1.size
  have HB1 := Lib.hid hb1
  clear hb1 HS
  go_wp2_with (at_builtin; refine wpList_append_bytes rfl _ _ rfl w1.heap.size _ 0 n c1 [] bs A1 _ rfl HE.out rfl H1.out.symm e1 R1'.out (by omega) (by simp) ?_; intro v2 w2 hown2 hb2; (obtain ⟨Ai, ci, bi, rfl, hAi, hNi, hgi, hbi1, hbi2, hrow⟩ := own_in hown2 (grow_new _ _) (by simp) hb2); have HNI := Lib.hid hNi; have HGI := Lib.hid hgi; have HROW := Lib.hid hrow; clear hown2 hb2 hNi hgi hrow)
  have hz2 := HGI.out.size
  refine (open_any Ai n ci bs 0 w2 H1.out (by omega) hAi HNI.out).mono ?_
  rintro e w3 ⟨c, rfl, hc1, hc2, hb3, hcc⟩
  have HC := Lib.hid hcc
  have hz3 := hb3.size
  have HB3 := Lib.hid ((HB1.out.trans HGI.out).trans hb3)
  have HROW3 : Hid (0 < n → Ai = some ⟨bi, 0, none⟩ ∧ ∃ cur, w3.heap[bi]? = some (.cells cur 5 (0, 0)) ∧ n ≤ cur.size) := fun h => by
    obtain ⟨hA, cur, hcur, hsz⟩ := HROW.out h
    exact ⟨hA, cur, (hb3.block bi hbi2).trans hcur, hsz⟩
  clear hcc hb3 R1' HE HNI HGI HROW HB1
  go_wp2_with fail
  go_loopg [8] n (fun gk i wr => ∃ k : Nat, k ≤ n ∧ gk = n - k ∧ i = .int .i64 k ∧ Kept (fun k => k = bi) w3 wr ∧ (0 < n → ∃ cur, wr.heap[bi]? = some (.cells cur 5 (0, 0)) ∧ n ≤ cur.size))
  case atStart => exact ⟨0, Nat.zero_le _, rfl, rfl, Kept.refl _ _, fun h => (HROW3.out h).2⟩
  case round =>
    obtain ⟨k, hk, rfl, rfl, kp, hrw⟩ := hrel
    have KP := Lib.hid kp
    have HRW := Lib.hid hrw
    clear kp hrw
    by_cases hlt : k < n
    · have hrw := HRW.out (by omega)
      obtain ⟨rfl, -⟩ := HROW3.out (by omega)
      obtain ⟨⟨vk, hcell⟩, hfrz⟩ := row_cell hrw hlt
      have HNX := Lib.hid (row_set (k := k) (v := .int .u8 9) hrw)
      clear hrw
      go_wp2_with fail
      go_roundg (n - (k + 1))
      case measure => omega
      case rel => exact ⟨k + 1, by omega, rfl, by go_num, KP.out.one _, fun _ => HNX.out⟩
    · obtain rfl : n = k := by omega
      clear hlt HRW HROW3 hk
      obtain ⟨w4, hw4⟩ : ∃ w4, w4 = wr := ⟨_, rfl⟩
      subst hw4
      obtain ⟨W4, hW4⟩ : ∃ W4, w4.heap.size = W4 := ⟨_, rfl⟩
      have hz4 := KP.out.size
      rw [hW4] at hz4
      obtain ⟨S, hS⟩ : ∃ S : Nat → Prop, S = fun k => k = c ∨ k = bi ∨ W4 ≤ k := ⟨_, rfl⟩
      have HSC := Lib.hid (show ∀ k, k = c → S k by intro k h; rw [hS]; exact .inl h)
      have HSB := Lib.hid (show ∀ k, k = bi → S k by intro k h; rw [hS]; exact .inr (.inl h))
      have HSH := Lib.hid (show ∀ k, W4 ≤ k → S k by intro k h; rw [hS]; exact .inr (.inr h))
      have HSW := Lib.hid (show ∀ k, S k → w.heap.size ≤ k by intro k h; rw [hS] at h; have := HB3.out.size; omega)
      have IC := Lib.hid (show IsC 44 S w4 c ⟨bs.drop 0, ((0 : Nat) : Int), 0, 0⟩ from (HC.out S (HSC.out c rfl) (fun k hk => by rw [hS] at hk; omega)).kept KP.out HSB.out (by show ¬ c = bi; omega))
      have HB4 := Lib.hid (Kept.grow HB3.out (KP.out.mono HSB.out) HSW.out)
      have R1'' := Lib.hid (R1.out.below HB4.out)
      have R2'' := Lib.hid (R2.out.below HB4.out)
      have HW4 := Lib.hid hW4
      clear HC R1 R2 KP hS hW4 HB3
      go_wp2_with fail
      go_loopg [9, 10] m (fun gk v i wr => ∃ k t : Nat, k ≤ m ∧ gk = m - k ∧ i = .int .i64 k ∧ t ≤ n ∧ IsC 44 S wr c ⟨bs.drop t, (t : Int), 0, 0⟩ ∧ wr.ownsRow W4 5 1 v t (u8s (bs.take t)) ∧ Kept S w4 wr)
      case atStart => exact ⟨0, 0, Nat.zero_le _, rfl, rfl, Nat.zero_le _, IC.out, World.ownsRow_nil _ _ _ _, Kept.refl _ _⟩
      case round =>
        obtain ⟨k, t, hk, rfl, rfl, ht, ic, hall, kp⟩ := hrel
        obtain ⟨wq, hwq⟩ : ∃ wq, wq = wr := ⟨_, rfl⟩
        subst hwq
        have IC2 := Lib.hid ic
        have HALL := Lib.hid hall
        have KP2 := Lib.hid kp
        have hzr : W4 ≤ wq.heap.size := by have := kp.size; rw [HW4.out] at this; exact this
        clear ic hall kp IC
        have HG := Lib.hid (cut_good bs t n H1.out hn ht B1.out)
        by_cases hlt : k < m
        · have hkl : k < l.length := by rw [H2.out]; exact hlt
          obtain ⟨b, off, rfl, hb, hcl⟩ := R2''.out (by omega)
          have hbS : ¬ S b := fun h => by have := HSW.out b h; omega
          have hbl : b < w4.heap.size := Nat.lt_of_lt_of_le hb HB4.out.size
          have HCL : Hid (∀ wy, Kept S w4 wy → wy.cell? ⟨b, off + k, none⟩ = some (.int .i64 (l.getD k 0))) := fun wy hy => (hy.cell (p := ⟨b, off + k, none⟩) hbl hbS).trans (hcl k hkl)
          clear hcl
          generalize l.getD k 0 = y at *
          have hcl' : ∀ wg, Grow wq.drew wg → wg.cell? ⟨b, off + k, none⟩ = some (.int .i64 y) := fun wg hg => HCL.out wg (KP2.out.trans (Kept.of_grow (Grow.of_drew hg)))
          obtain ⟨L, hL⟩ : ∃ L, (bs.drop t).length = L := ⟨_, rfl⟩
          have hLn : L = n - t := by rw [← hL, List.length_drop, H1.out]
          have HL := Lib.hid hL
          clear hL
          have hLb : L ≤ n - t := by omega
          clear hLn
          by_cases hy : y < 0
          · have hy0 : decide ((0 : Int) ≤ y) = false := by simp; omega
            go_wp2_with fail
            refine wp_region_grow (n := 16) rfl (by kernel_rfl) ?_
            refine wpAnyG_take (i := 0) (v := ?v1) rfl (by kernel_rfl) (by kernel_rfl) (by kernel_rfl) (fun _ _ _ h => h) (by rfl) ?h1 ?r1
            case h1 => (intro wg hSw; go_simp <;> with_reducible rfl)
            simp only [Act.put, List.setIfInBounds_toArray, List.set_cons_zero, List.set_cons_succ]
            refine wpAnyG_take (i := 1) (v := ?v2) rfl (by kernel_rfl) (by kernel_rfl) (by kernel_rfl) (fun _ _ _ h => h) (by rfl) ?h2 ?r2
            case h2 => (intro wg hSw; go_simp <;> with_reducible rfl)
            simp only [Act.put, List.setIfInBounds_toArray, List.set_cons_zero, List.set_cons_succ]
            refine wpAnyG_take (i := 2) (v := ?v3) rfl (by kernel_rfl) (by kernel_rfl) (by kernel_rfl) (fun _ _ _ h => h) (by rfl) ?h3 ?r3
            case h3 => (intro wg hSw; go_simp <;> with_reducible rfl)
            simp only [Act.put, List.setIfInBounds_toArray, List.set_cons_zero, List.set_cons_succ]
            refine wpAnyG_take (i := 3) (v := ?v4) rfl (by kernel_rfl) (by kernel_rfl) (by kernel_rfl) (fun _ _ _ h => h) (by rfl) ?h4 ?r4
            case h4 => (intro wg hSw; go_simp <;> with_reducible rfl)
            simp only [Act.put, List.setIfInBounds_toArray, List.set_cons_zero, List.set_cons_succ]
            refine wpAnyG_take (i := 4) (v := ?v5) rfl (by kernel_rfl) (by kernel_rfl) (by kernel_rfl) (fun _ _ _ h => h) (by rfl) ?h5 ?r5
            case h5 => (intro wg hSw; go_simp <;> with_reducible rfl)
            simp only [Act.put, List.setIfInBounds_toArray, List.set_cons_zero, List.set_cons_succ]
            refine wpAnyG_take (i := 5) (v := ?v6) rfl (by kernel_rfl) (by kernel_rfl) (by kernel_rfl) (fun _ _ _ h => h) (by rfl) ?h6 ?r6
            case h6 => (intro wg hSw; go_simp <;> with_reducible rfl)
            simp only [Act.put, List.setIfInBounds_toArray, List.set_cons_zero, List.set_cons_succ]
            refine wpAnyG_pass (i := 6) rfl (by kernel_rfl) (by kernel_rfl) (by kernel_rfl) (fun _ _ _ h => h) (by rfl) ?_
            simp only [Act.put, List.setIfInBounds_toArray, List.set_cons_zero, List.set_cons_succ]
            refine wpAnyG_pass (i := 7) rfl (by kernel_rfl) (by kernel_rfl) (by kernel_rfl) (fun _ _ _ h => h) (by rfl) ?_
            simp only [Act.put, List.setIfInBounds_toArray, List.set_cons_zero, List.set_cons_succ]
            refine wpAnyG_pass (i := 8) rfl (by kernel_rfl) (by kernel_rfl) (by kernel_rfl) (fun _ _ _ h => h) (by rfl) ?_
            simp only [Act.put, List.setIfInBounds_toArray, List.set_cons_zero, List.set_cons_succ]
            refine wpAnyG_pass (i := 9) rfl (by kernel_rfl) (by kernel_rfl) (by kernel_rfl) (fun _ _ _ h => h) (by rfl) ?_
            simp only [Act.put, List.setIfInBounds_toArray, List.set_cons_zero, List.set_cons_succ]
            refine wpAnyG_pass (i := 10) rfl (by kernel_rfl) (by kernel_rfl) (by kernel_rfl) (fun _ _ _ h => h) (by rfl) ?_
            simp only [Act.put, List.setIfInBounds_toArray, List.set_cons_zero, List.set_cons_succ]
            refine wpAnyG_pass (i := 11) rfl (by kernel_rfl) (by kernel_rfl) (by kernel_rfl) (fun _ _ _ h => h) (by rfl) ?_
            simp only [Act.put, List.setIfInBounds_toArray, List.set_cons_zero, List.set_cons_succ]
            refine wpAnyG_pass (i := 12) rfl (by kernel_rfl) (by kernel_rfl) (by kernel_rfl) (fun _ _ _ h => h) (by rfl) ?_
            simp only [Act.put, List.setIfInBounds_toArray, List.set_cons_zero, List.set_cons_succ]
            refine wpAnyG_pass (i := 13) rfl (by kernel_rfl) (by kernel_rfl) (by kernel_rfl) (fun _ _ _ h => h) (by rfl) ?_
            simp only [Act.put, List.setIfInBounds_toArray, List.set_cons_zero, List.set_cons_succ]
            refine wpAnyG_pass (i := 14) rfl (by kernel_rfl) (by kernel_rfl) (by kernel_rfl) (fun _ _ _ h => h) (by rfl) ?_
            simp only [Act.put, List.setIfInBounds_toArray, List.set_cons_zero, List.set_cons_succ]
            refine wpAnyG_take (i := 15) (v := ?v7) rfl (by kernel_rfl) (by kernel_rfl) (by kernel_rfl) (fun _ _ _ h => h) (by rfl) ?h7 ?r7
            case h7 => (intro wg hSw; go_simp <;> with_reducible rfl)
            simp only [Act.put, List.setIfInBounds_toArray, List.set_cons_zero, List.set_cons_succ]
            refine wpAnyG_done (by kernel_rfl) ?_
            clear hcl'
            go_wp2_with fail
            go_roundg (m - (k + 1))
            case measure => omega
            case rel => exact ⟨k + 1, t, by omega, rfl, by go_num, ht, IC2.out.grow (Grow.refl _).drew, own_any HALL.out (Grow.refl _).drew, KP2.out.drew⟩
          · obtain ⟨Y, rfl⟩ := Int.eq_ofNat_of_zero_le (show 0 ≤ y by omega)
            by_cases hYL : L < Y
            · clear hy
              go_wp2_with fail
              refine wp_region_grow (n := 16) rfl (by kernel_rfl) ?_
              refine wpAnyG_take (i := 0) (v := ?v8) rfl (by kernel_rfl) (by kernel_rfl) (by kernel_rfl) (fun _ _ _ h => h) (by rfl) ?h8 ?r8
              case h8 => (intro wg hSw; go_simp <;> with_reducible rfl)
              simp only [Act.put, List.setIfInBounds_toArray, List.set_cons_zero, List.set_cons_succ]
              refine wpAnyG_take (i := 1) (v := ?v9) rfl (by kernel_rfl) (by kernel_rfl) (by kernel_rfl) (fun _ _ _ h => h) (by rfl) ?h9 ?r9
              case h9 => (intro wg hSw; go_simp <;> with_reducible rfl)
              simp only [Act.put, List.setIfInBounds_toArray, List.set_cons_zero, List.set_cons_succ]
              refine wpAnyG_take (i := 2) (v := ?v10) rfl (by kernel_rfl) (by kernel_rfl) (by kernel_rfl) (fun _ _ _ h => h) (by rfl) ?h10 ?r10
              case h10 => (intro wg hSw; go_simp <;> with_reducible rfl)
              simp only [Act.put, List.setIfInBounds_toArray, List.set_cons_zero, List.set_cons_succ]
              refine wpAnyG_take (i := 3) (v := ?v11) rfl (by kernel_rfl) (by kernel_rfl) (by kernel_rfl) (fun _ _ _ h => h) (by rfl) ?h11 ?r11
              case h11 => (intro wg hSw; go_simp <;> with_reducible rfl)
              simp only [Act.put, List.setIfInBounds_toArray, List.set_cons_zero, List.set_cons_succ]
              refine wpAnyG_take (i := 4) (v := ?v12) rfl (by kernel_rfl) (by kernel_rfl) (by kernel_rfl) (fun _ _ _ h => h) (by rfl) ?h12 ?r12
              case h12 => (intro wg hSw; go_simp <;> with_reducible rfl)
              simp only [Act.put, List.setIfInBounds_toArray, List.set_cons_zero, List.set_cons_succ]
              refine wpAnyG_take (i := 5) (v := ?v13) rfl (by kernel_rfl) (by kernel_rfl) (by kernel_rfl) (fun _ _ _ h => h) (by rfl) ?h13 ?r13
              case h13 => (intro wg hSw; go_simp <;> with_reducible rfl)
              simp only [Act.put, List.setIfInBounds_toArray, List.set_cons_zero, List.set_cons_succ]
              refine wpAnyG_take (i := 6) (v := ?v14) rfl (by kernel_rfl) (by kernel_rfl) (by kernel_rfl) (fun _ _ _ h => h) (by rfl) ?h14 ?r14
              case h14 => (intro wg hSw; go_simp <;> with_reducible rfl)
              simp only [Act.put, List.setIfInBounds_toArray, List.set_cons_zero, List.set_cons_succ]
              refine wpAnyG_take (i := 7) (v := ?v15) rfl (by kernel_rfl) (by kernel_rfl) (by kernel_rfl) (fun _ _ _ h => h) (by rfl) ?h15 ?r15
              case h15 => (intro wg hSw; go_simp <;> with_reducible rfl)
              simp only [Act.put, List.setIfInBounds_toArray, List.set_cons_zero, List.set_cons_succ]
              refine wpAnyG_take (i := 8) (v := ?v16) rfl (by kernel_rfl) (by kernel_rfl) (by kernel_rfl) (fun _ _ _ h => h) (by rfl) ?h16 ?r16
              case h16 => (intro wg hSw; go_simp <;> with_reducible rfl)
              simp only [Act.put, List.setIfInBounds_toArray, List.set_cons_zero, List.set_cons_succ]
              refine wpAnyG_take (i := 9) (v := ?v17) rfl (by kernel_rfl) (by kernel_rfl) (by kernel_rfl) (fun _ _ _ h => h) (by rfl) ?h17 ?r17
              case h17 => (intro wg hSw; go_simp <;> with_reducible rfl)
              simp only [Act.put, List.setIfInBounds_toArray, List.set_cons_zero, List.set_cons_succ]
              refine wpAnyG_take (i := 10) (v := ?v18) rfl (by kernel_rfl) (by kernel_rfl) (by kernel_rfl) (fun _ _ _ h => h) (by rfl) ?h18 ?r18
              case h18 => (intro wg hSw; go_simp <;> with_reducible rfl)
              simp only [Act.put, List.setIfInBounds_toArray, List.set_cons_zero, List.set_cons_succ]
              refine wpAnyG_take (i := 11) (v := ?v19) rfl (by kernel_rfl) (by kernel_rfl) (by kernel_rfl) (fun _ _ _ h => h) (by rfl) ?h19 ?r19
              case h19 => (intro wg hSw; go_simp <;> with_reducible rfl)
              simp only [Act.put, List.setIfInBounds_toArray, List.set_cons_zero, List.set_cons_succ]
              refine wpAnyG_take (i := 12) (v := ?v20) rfl (by kernel_rfl) (by kernel_rfl) (by kernel_rfl) (fun _ _ _ h => h) (by rfl) ?h20 ?r20
              case h20 => (intro wg hSw; go_simp <;> with_reducible rfl)
              simp only [Act.put, List.setIfInBounds_toArray, List.set_cons_zero, List.set_cons_succ]
              refine wpAnyG_one (i := 13) rfl (by kernel_rfl) (by rfl) (fun K hK => ?_)
              go_simp
              refine (left_1 _ (IC2.out.grow (Grow.refl _).drew) L HL.out).mono ?_
              rintro e w' ⟨rfl, rfl⟩
              refine hK.out _ _ (Grow.refl _) ?_
              clear hK K
              try simp only [Act.put, List.setIfInBounds_toArray, List.set_cons_zero, List.set_cons_succ]
              refine wpAnyG_take (i := 14) (v := ?v21) rfl (by kernel_rfl) (by kernel_rfl) (by kernel_rfl) (fun _ _ _ h => h) (by rfl) ?h21 ?r21
              case h21 => (intro wg hSw; go_simp <;> with_reducible rfl)
              simp only [Act.put, List.setIfInBounds_toArray, List.set_cons_zero, List.set_cons_succ]
              refine wpAnyG_take (i := 15) (v := ?v22) rfl (by kernel_rfl) (by kernel_rfl) (by kernel_rfl) (fun _ _ _ h => h) (by rfl) ?h22 ?r22
              case h22 => (intro wg hSw; go_simp <;> with_reducible rfl)
              simp only [Act.put, List.setIfInBounds_toArray, List.set_cons_zero, List.set_cons_succ]
              refine wpAnyG_done (by kernel_rfl) ?_
              clear hcl'
              go_wp2_with fail
              go_roundg (m - (k + 1))
              case measure => omega
              case rel => exact ⟨k + 1, t, by omega, rfl, by go_num, ht, IC2.out.grow (Grow.refl _).drew, own_any HALL.out (Grow.refl _).drew, KP2.out.drew⟩
            · have hYl : Y ≤ L := by omega
              have HTK := Lib.hid (cut_take bs t Y n H1.out (by omega))
              have HX : Hid (((bs.drop t).take Y).length = Y) := by
                have := HL.out
                show ((bs.drop t).take Y).length = Y
                rw [List.length_take]
                omega
              have HJ := Lib.hid (cut_join bs t Y)
              have HT := Lib.hid (fun W H => take_c (t := 44) (S := S) (g := c) (s := ⟨bs.drop t, (t : Int), 0, 0⟩) (Y : Int) W H HG.out)
              rw [HTK.out] at HT
              obtain ⟨X, hX⟩ : ∃ X, (bs.drop t).take Y = X := ⟨_, rfl⟩
              rw [hX] at HT HX HJ
              clear hX hy hYL HTK
              go_wp2_with fail
              refine wp_region_grow (n := 16) rfl (by kernel_rfl) ?_
              refine wpAnyG_take (i := 0) (v := ?v23) rfl (by kernel_rfl) (by kernel_rfl) (by kernel_rfl) (fun _ _ _ h => h) (by rfl) ?h23 ?r23
              case h23 => (intro wg hSw; go_simp <;> with_reducible rfl)
              simp only [Act.put, List.setIfInBounds_toArray, List.set_cons_zero, List.set_cons_succ]
              refine wpAnyG_take (i := 1) (v := ?v24) rfl (by kernel_rfl) (by kernel_rfl) (by kernel_rfl) (fun _ _ _ h => h) (by rfl) ?h24 ?r24
              case h24 => (intro wg hSw; go_simp <;> with_reducible rfl)
              simp only [Act.put, List.setIfInBounds_toArray, List.set_cons_zero, List.set_cons_succ]
              refine wpAnyG_take (i := 2) (v := ?v25) rfl (by kernel_rfl) (by kernel_rfl) (by kernel_rfl) (fun _ _ _ h => h) (by rfl) ?h25 ?r25
              case h25 => (intro wg hSw; go_simp <;> with_reducible rfl)
              simp only [Act.put, List.setIfInBounds_toArray, List.set_cons_zero, List.set_cons_succ]
              refine wpAnyG_take (i := 3) (v := ?v26) rfl (by kernel_rfl) (by kernel_rfl) (by kernel_rfl) (fun _ _ _ h => h) (by rfl) ?h26 ?r26
              case h26 => (intro wg hSw; go_simp <;> with_reducible rfl)
              simp only [Act.put, List.setIfInBounds_toArray, List.set_cons_zero, List.set_cons_succ]
              refine wpAnyG_take (i := 4) (v := ?v27) rfl (by kernel_rfl) (by kernel_rfl) (by kernel_rfl) (fun _ _ _ h => h) (by rfl) ?h27 ?r27
              case h27 => (intro wg hSw; go_simp <;> with_reducible rfl)
              simp only [Act.put, List.setIfInBounds_toArray, List.set_cons_zero, List.set_cons_succ]
              refine wpAnyG_take (i := 5) (v := ?v28) rfl (by kernel_rfl) (by kernel_rfl) (by kernel_rfl) (fun _ _ _ h => h) (by rfl) ?h28 ?r28
              case h28 => (intro wg hSw; go_simp <;> with_reducible rfl)
              simp only [Act.put, List.setIfInBounds_toArray, List.set_cons_zero, List.set_cons_succ]
              refine wpAnyG_take (i := 6) (v := ?v29) rfl (by kernel_rfl) (by kernel_rfl) (by kernel_rfl) (fun _ _ _ h => h) (by rfl) ?h29 ?r29
              case h29 => (intro wg hSw; go_simp <;> with_reducible rfl)
              simp only [Act.put, List.setIfInBounds_toArray, List.set_cons_zero, List.set_cons_succ]
              refine wpAnyG_take (i := 7) (v := ?v30) rfl (by kernel_rfl) (by kernel_rfl) (by kernel_rfl) (fun _ _ _ h => h) (by rfl) ?h30 ?r30
              case h30 => (intro wg hSw; go_simp <;> with_reducible rfl)
              simp only [Act.put, List.setIfInBounds_toArray, List.set_cons_zero, List.set_cons_succ]
              refine wpAnyG_take (i := 8) (v := ?v31) rfl (by kernel_rfl) (by kernel_rfl) (by kernel_rfl) (fun _ _ _ h => h) (by rfl) ?h31 ?r31
              case h31 => (intro wg hSw; go_simp <;> with_reducible rfl)
              simp only [Act.put, List.setIfInBounds_toArray, List.set_cons_zero, List.set_cons_succ]
              refine wpAnyG_take (i := 9) (v := ?v32) rfl (by kernel_rfl) (by kernel_rfl) (by kernel_rfl) (fun _ _ _ h => h) (by rfl) ?h32 ?r32
              case h32 => (intro wg hSw; go_simp <;> with_reducible rfl)
              simp only [Act.put, List.setIfInBounds_toArray, List.set_cons_zero, List.set_cons_succ]
              refine wpAnyG_take (i := 10) (v := ?v33) rfl (by kernel_rfl) (by kernel_rfl) (by kernel_rfl) (fun _ _ _ h => h) (by rfl) ?h33 ?r33
              case h33 => (intro wg hSw; go_simp <;> with_reducible rfl)
              simp only [Act.put, List.setIfInBounds_toArray, List.set_cons_zero, List.set_cons_succ]
              refine wpAnyG_take (i := 11) (v := ?v34) rfl (by kernel_rfl) (by kernel_rfl) (by kernel_rfl) (fun _ _ _ h => h) (by rfl) ?h34 ?r34
              case h34 => (intro wg hSw; go_simp <;> with_reducible rfl)
              simp only [Act.put, List.setIfInBounds_toArray, List.set_cons_zero, List.set_cons_succ]
              refine wpAnyG_take (i := 12) (v := ?v35) rfl (by kernel_rfl) (by kernel_rfl) (by kernel_rfl) (fun _ _ _ h => h) (by rfl) ?h35 ?r35
              case h35 => (intro wg hSw; go_simp <;> with_reducible rfl)
              simp only [Act.put, List.setIfInBounds_toArray, List.set_cons_zero, List.set_cons_succ]
              refine wpAnyG_one (i := 13) rfl (by kernel_rfl) (by rfl) (fun K hK => ?_)
              go_simp
              refine (left_1 _ (IC2.out.grow (Grow.refl _).drew) L HL.out).mono ?_
              rintro e w' ⟨rfl, rfl⟩
              refine hK.out _ _ (Grow.refl _) ?_
              clear hK K
              try simp only [Act.put, List.setIfInBounds_toArray, List.set_cons_zero, List.set_cons_succ]
              refine wpAnyG_take (i := 14) (v := ?v36) rfl (by kernel_rfl) (by kernel_rfl) (by kernel_rfl) (fun _ _ _ h => h) (by rfl) ?h36 ?r36
              case h36 => (intro wg hSw; go_simp <;> with_reducible rfl)
              simp only [Act.put, List.setIfInBounds_toArray, List.set_cons_zero, List.set_cons_succ]
              refine wpAnyG_take (i := 15) (v := ?v37) rfl (by kernel_rfl) (by kernel_rfl) (by kernel_rfl) (fun _ _ _ h => h) (by rfl) ?h37 ?r37
              case h37 => (intro wg hSw; go_simp <;> with_reducible rfl)
              simp only [Act.put, List.setIfInBounds_toArray, List.set_cons_zero, List.set_cons_succ]
              refine wpAnyG_done (by kernel_rfl) ?_
              clear hcl'
              have hcy := HCL.out wq.drew KP2.out.drew
              go_wp2_with fail
              refine (HT.out _ (IC2.out.grow (Grow.refl _).drew)).mono ?_
              rintro e w5 ⟨v5, ho5, rfl, ic5, k5⟩
              rw [HX.out] at ho5
              have ho5' : w5.ownsRow wq.heap.size 5 1 v5 Y (u8s X) := ho5
              have k5' : Kept (fun k => k = c) wq w5 := Kept.of_drew k5
              obtain ⟨A5, c5, rfl, hA5, hN5, -⟩ := own_nums ho5'
              have HO5 := Lib.hid ho5'
              have HN5 := Lib.hid hN5
              have IC5 := Lib.hid ic5
              have K5 := Lib.hid (k5'.mono HSC.out)
              have HALL5 := Lib.hid (own_kept HALL.out k5' (fun k hk (e : k = c) => by have := (HALL.out.lt k hk).1; omega))
              have hz5 := k5'.size
              have hz5' : W4 ≤ w5.heap.size := by omega
              clear ho5 ho5' hN5 ic5 k5 k5' hcy
              go_wp2_with (first
                | (at_builtin; refine wpList_append_at rfl _ _ rfl W4 u9 t Y c5 (bs.take t) X A5 _ rfl HALL5.out rfl HX.out.symm hA5 HN5.out (by omega) hz5' ?_; intro v6 w6 hown6 k6 hat6; have HX6 := Lib.hid (own_kept HO5.out k6 (fun k hk hT => by have := (HO5.out.lt k hk).1; have := (HALL.out.lt k hT).2; omega)); have HOWN6 := Lib.hid hown6; have K6 := Lib.hid k6; have HAT6 := Lib.hid hat6; have hz6 := k6.size; clear hown6 k6 hat6)
                | (at_builtin; refine wpList_append_at rfl _ _ rfl wq.heap.size (.slice A5 Y c5) Y 1 1 X [7] (some ⟨w6.heap.size, 0, none⟩) _ rfl (HX6.out.alloc _) rfl rfl (by simp) (lit_nums w6 .u8 5 [7]) (by omega) (by simp; omega) ?_; intro v7 w7 hown7 k7 hat7; have HOWN7 := Lib.hid hown7; have K7 := Lib.hid k7; have HAT7 := Lib.hid hat7; have hz7 := k7.size; (obtain ⟨g7, c7, rfl, hg7, hrow7⟩ := own_form hown7 (by omega)); have HR7 := Lib.hid hrow7; clear hown7 k7 hat7 hrow7))
              have SEP6 : Hid (∀ k, v6.ownBlock = some k → ¬ (Value.slice A5 Y c5).ownBlock = some k) := fun k hk hx => by
                have h5 := HO5.out.lt k hx
                rcases HAT6.out with e | e
                · have := (HALL.out.lt k (by rw [← e]; exact hk)).2
                  omega
                · rw [hk] at e
                  cases e
                  omega
              have ALL7 := Lib.hid (own_kept (HOWN6.out.alloc (.cells #[.int .u8 7] 5)) K7.out SEP6.out)
              have SEP7 : Hid (¬ v6.ownBlock = some g7) := fun hk => by
                rcases HAT7.out with e | e
                · exact SEP6.out g7 hk e.symm
                · have h6 := (HOWN6.out.lt g7 hk).2
                  have e' : g7 = (w6.alloc (.cells #[.int .u8 7] 5)).heap.size := Option.some.inj e
                  simp at e'
                  omega
              have K6S : Kept S w5 w6 := K6.out.mono (fun k hk => HSH.out k (HALL.out.lt k hk).1)
              have K7S : Kept S (w6.alloc (.cells #[.int .u8 7] 5)) w7 := K7.out.mono (fun k hk => HSH.out k (by have := (HO5.out.lt k hk).1; omega))
              have IC7 := Lib.hid (((IC5.out.kept K6.out (fun k hk => HSH.out k (HALL.out.lt k hk).1) (fun hk => by have := (HALL.out.lt c hk).1; omega)).grow (grow_new _ (.cells #[.int .u8 7] 5))).kept K7.out (fun k hk => HSH.out k (by have := (HO5.out.lt k hk).1; omega)) (fun hk => by have := (HO5.out.lt c hk).1; omega))
              have KP7 := Lib.hid ((((KP2.out.trans K5.out).trans K6S).alloc (.cells #[.int .u8 7] 5)).trans K7S)
              have hcg : ¬ c = g7 := by omega
              have HSG := Lib.hid (show ∀ k, k = g7 → S k from fun k e => HSH.out k (by omega))
              clear K6S K7S HAT6 HAT7 SEP6 HOWN6 HOWN7 K6 K7 HX6 IC5 HALL5 HN5 HO5 K5
              go_wp2_with fail
              go_loopg [12] (Y + 1) (fun gk i wr => ∃ j : Nat, j ≤ Y + 1 ∧ gk = Y + 1 - j ∧ i = .int .i64 j ∧ Kept (fun k => k = g7) w7 wr ∧ ∃ cur, wr.heap[g7]? = some (.cells cur 5 (0, 0)) ∧ Y + 1 ≤ cur.size)
              case atStart => exact ⟨0, Nat.zero_le _, rfl, rfl, Kept.refl _ _, HR7.out⟩
              case round =>
                obtain ⟨j, hj, rfl, rfl, kp, hrw⟩ := hrel
                have KP := Lib.hid kp
                have HRW := Lib.hid hrw
                clear kp hrw
                by_cases hlt3 : j < Y + 1
                · obtain ⟨⟨vj, hcell⟩, hfrz⟩ := row_cell HRW.out hlt3
                  have HNX := Lib.hid (row_set (k := j) (v := .int .u8 7) HRW.out)
                  go_wp2_with fail
                  go_roundg (Y + 1 - (j + 1))
                  case measure => omega
                  case rel => exact ⟨j + 1, by omega, rfl, by go_num, KP.out.one _, HNX.out⟩
                · obtain rfl : j = Y + 1 := by omega
                  clear hlt3 HRW
                  go_wp2_with fail
                  go_roundg (m - (k + 1))
                  case measure => omega
                  case rel => exact ⟨k + 1, t + Y, by omega, rfl, by go_num, by omega, IC7.out.kept KP.out HSG.out hcg, by rw [← HJ.out]; exact own_kept ALL7.out KP.out (fun k hk (e : k = g7) => SEP7.out (e ▸ hk)), KP7.out.trans (KP.out.mono HSG.out)⟩
        · obtain rfl : m = k := by omega
          obtain ⟨A9, c9, rfl, hA9, hN9, hl9⟩ := own_nums HALL.out
          obtain ⟨L, hL⟩ : ∃ L, (bs.drop t).length = L := ⟨_, rfl⟩
          have hLn : L = n - t := by rw [← hL, List.length_drop, H1.out]
          have HL := Lib.hid hL
          have HTL := Lib.hid (show (bs.take t).length = t by rw [List.length_take, H1.out]; omega)
          have hsub : IntKind.i64.wrap ((n : Int) - (t : Int)) = (L : Int) := by rw [IntKind.wrap_i64]; omega
          have htc : t ≤ c1 := by omega
          have hs1 : ∀ wg, Grow wq.drew wg → (convert 22 9 (.slice A9 t c9)).run Try.prog wg = .ok (.string (strOfNums (bs.take t))) wg := fun wg hg => by
            have h := conv_any (k := 22) c9 (hN9.grow (Grow.of_drew hg)) rfl
            rw [HTL.out] at h
            exact h
          have hs2 : ∀ wg, Grow wq.drew wg → (convert 22 9 (.slice A1 t c1)).run Try.prog wg = .ok (.string (strOfNums (bs.take t))) wg := fun wg hg => by
            have h := conv_any (k := 22) c1 ((R1''.out.keep_ HB4.out.size (KP2.out.trans (Kept.of_grow (Grow.of_drew hg))) HSW.out).take t) rfl
            rw [HTL.out] at h
            exact h
          generalize strOfNums (bs.take t) = st at *
          have HF := Lib.hid (Kept.grow HB4.out KP2.out HSW.out)
          clear hN9 hl9 hL hLn
          go_wp2_with fail
          refine wp_region_grow (n := 44) rfl (by kernel_rfl) ?_
          refine wpAnyG_take (i := 0) (v := ?v38) rfl (by kernel_rfl) (by kernel_rfl) (by kernel_rfl) (fun _ _ _ h => h) (by rfl) ?h38 ?r38
          case h38 => (intro wg hSw; go_simp <;> with_reducible rfl)
          simp only [Act.put, List.setIfInBounds_toArray, List.set_cons_zero, List.set_cons_succ]
          refine wpAnyG_take (i := 1) (v := ?v39) rfl (by kernel_rfl) (by kernel_rfl) (by kernel_rfl) (fun _ _ _ h => h) (by rfl) ?h39 ?r39
          case h39 => (intro wg hSw; go_simp <;> with_reducible rfl)
          simp only [Act.put, List.setIfInBounds_toArray, List.set_cons_zero, List.set_cons_succ]
          refine wpAnyG_take (i := 2) (v := ?v40) rfl (by kernel_rfl) (by kernel_rfl) (by kernel_rfl) (fun _ _ _ h => h) (by rfl) ?h40 ?r40
          case h40 => (intro wg hSw; go_simp <;> with_reducible rfl)
          simp only [Act.put, List.setIfInBounds_toArray, List.set_cons_zero, List.set_cons_succ]
          refine wpAnyG_take (i := 3) (v := ?v41) rfl (by kernel_rfl) (by kernel_rfl) (by kernel_rfl) (fun _ _ _ h => h) (by rfl) ?h41 ?r41
          case h41 => (intro wg hSw; go_simp <;> with_reducible rfl)
          simp only [Act.put, List.setIfInBounds_toArray, List.set_cons_zero, List.set_cons_succ]
          refine wpAnyG_take (i := 4) (v := ?v42) rfl (by kernel_rfl) (by kernel_rfl) (by kernel_rfl) (fun _ _ _ h => h) (by rfl) ?h42 ?r42
          case h42 => (intro wg hSw; go_simp <;> with_reducible rfl)
          simp only [Act.put, List.setIfInBounds_toArray, List.set_cons_zero, List.set_cons_succ]
          refine wpAnyG_take (i := 5) (v := ?v43) rfl (by kernel_rfl) (by kernel_rfl) (by kernel_rfl) (fun _ _ _ h => h) (by rfl) ?h43 ?r43
          case h43 => (intro wg hSw; go_simp <;> with_reducible rfl)
          simp only [Act.put, List.setIfInBounds_toArray, List.set_cons_zero, List.set_cons_succ]
          refine wpAnyG_take (i := 6) (v := ?v44) rfl (by kernel_rfl) (by kernel_rfl) (by kernel_rfl) (fun _ _ _ h => h) (by rfl) ?h44 ?r44
          case h44 => (intro wg hSw; go_simp <;> with_reducible rfl)
          simp only [Act.put, List.setIfInBounds_toArray, List.set_cons_zero, List.set_cons_succ]
          refine wpAnyG_take (i := 7) (v := ?v45) rfl (by kernel_rfl) (by kernel_rfl) (by kernel_rfl) (fun _ _ _ h => h) (by rfl) ?h45 ?r45
          case h45 => (intro wg hSw; go_simp <;> with_reducible rfl)
          simp only [Act.put, List.setIfInBounds_toArray, List.set_cons_zero, List.set_cons_succ]
          refine wpAnyG_take (i := 8) (v := ?v46) rfl (by kernel_rfl) (by kernel_rfl) (by kernel_rfl) (fun _ _ _ h => h) (by rfl) ?h46 ?r46
          case h46 => (intro wg hSw; go_simp <;> with_reducible rfl)
          simp only [Act.put, List.setIfInBounds_toArray, List.set_cons_zero, List.set_cons_succ]
          refine wpAnyG_take (i := 9) (v := ?v47) rfl (by kernel_rfl) (by kernel_rfl) (by kernel_rfl) (fun _ _ _ h => h) (by rfl) ?h47 ?r47
          case h47 => (intro wg hSw; go_simp <;> with_reducible rfl)
          simp only [Act.put, List.setIfInBounds_toArray, List.set_cons_zero, List.set_cons_succ]
          refine wpAnyG_take (i := 10) (v := ?v48) rfl (by kernel_rfl) (by kernel_rfl) (by kernel_rfl) (fun _ _ _ h => h) (by rfl) ?h48 ?r48
          case h48 => (intro wg hSw; go_simp <;> with_reducible rfl)
          simp only [Act.put, List.setIfInBounds_toArray, List.set_cons_zero, List.set_cons_succ]
          refine wpAnyG_take (i := 12) (v := ?v49) rfl (by kernel_rfl) (by kernel_rfl) (by kernel_rfl) (fun _ _ _ h => h) (by rfl) ?h49 ?r49
          case h49 => (intro wg hSw; go_simp <;> with_reducible rfl)
          simp only [Act.put, List.setIfInBounds_toArray, List.set_cons_zero, List.set_cons_succ]
          refine wpAnyG_one (i := 11) rfl (by kernel_rfl) (by rfl) (fun K hK => ?_)
          go_simp
          refine (at_1 _ (IC2.out.grow (Grow.refl _).drew) (t : Int) rfl).mono ?_
          rintro e w' ⟨rfl, rfl⟩
          refine hK.out _ _ (Grow.refl _) ?_
          clear hK K
          try simp only [Act.put, List.setIfInBounds_toArray, List.set_cons_zero, List.set_cons_succ]
          refine wpAnyG_take (i := 13) (v := ?v50) rfl (by kernel_rfl) (by kernel_rfl) (by kernel_rfl) (fun _ _ _ h => h) (by rfl) ?h50 ?r50
          case h50 => (intro wg hSw; go_simp <;> with_reducible rfl)
          simp only [Act.put, List.setIfInBounds_toArray, List.set_cons_zero, List.set_cons_succ]
          refine wpAnyG_take (i := 14) (v := ?v51) rfl (by kernel_rfl) (by kernel_rfl) (by kernel_rfl) (fun _ _ _ h => h) (by rfl) ?h51 ?r51
          case h51 => (intro wg hSw; go_simp <;> with_reducible rfl)
          simp only [Act.put, List.setIfInBounds_toArray, List.set_cons_zero, List.set_cons_succ]
          refine wpAnyG_take (i := 15) (v := ?v52) rfl (by kernel_rfl) (by kernel_rfl) (by kernel_rfl) (fun _ _ _ h => h) (by rfl) ?h52 ?r52
          case h52 => (intro wg hSw; go_simp <;> with_reducible rfl)
          simp only [Act.put, List.setIfInBounds_toArray, List.set_cons_zero, List.set_cons_succ]
          refine wpAnyG_take (i := 16) (v := ?v53) rfl (by kernel_rfl) (by kernel_rfl) (by kernel_rfl) (fun _ _ _ h => h) (by rfl) ?h53 ?r53
          case h53 => (intro wg hSw; go_simp <;> with_reducible rfl)
          simp only [Act.put, List.setIfInBounds_toArray, List.set_cons_zero, List.set_cons_succ]
          refine wpAnyG_take (i := 17) (v := ?v54) rfl (by kernel_rfl) (by kernel_rfl) (by kernel_rfl) (fun _ _ _ h => h) (by rfl) ?h54 ?r54
          case h54 => (intro wg hSw; go_simp <;> with_reducible rfl)
          simp only [Act.put, List.setIfInBounds_toArray, List.set_cons_zero, List.set_cons_succ]
          refine wpAnyG_take (i := 18) (v := ?v55) rfl (by kernel_rfl) (by kernel_rfl) (by kernel_rfl) (fun _ _ _ h => h) (by rfl) ?h55 ?r55
          case h55 => (intro wg hSw; go_simp <;> with_reducible rfl)
          simp only [Act.put, List.setIfInBounds_toArray, List.set_cons_zero, List.set_cons_succ]
          refine wpAnyG_take (i := 20) (v := ?v56) rfl (by kernel_rfl) (by kernel_rfl) (by kernel_rfl) (fun _ _ _ h => h) (by rfl) ?h56 ?r56
          case h56 => (intro wg hSw; go_simp <;> with_reducible rfl)
          simp only [Act.put, List.setIfInBounds_toArray, List.set_cons_zero, List.set_cons_succ]
          refine wpAnyG_take (i := 21) (v := ?v57) rfl (by kernel_rfl) (by kernel_rfl) (by kernel_rfl) (fun _ _ _ h => h) (by rfl) ?h57 ?r57
          case h57 => (intro wg hSw; go_simp <;> with_reducible rfl)
          simp only [Act.put, List.setIfInBounds_toArray, List.set_cons_zero, List.set_cons_succ]
          refine wpAnyG_take (i := 22) (v := ?v58) rfl (by kernel_rfl) (by kernel_rfl) (by kernel_rfl) (fun _ _ _ h => h) (by rfl) ?h58 ?r58
          case h58 => (intro wg hSw; go_simp <;> with_reducible rfl)
          simp only [Act.put, List.setIfInBounds_toArray, List.set_cons_zero, List.set_cons_succ]
          refine wpAnyG_take (i := 23) (v := ?v59) rfl (by kernel_rfl) (by kernel_rfl) (by kernel_rfl) (fun _ _ _ h => h) (by rfl) ?h59 ?r59
          case h59 => (intro wg hSw; go_simp <;> with_reducible rfl)
          simp only [Act.put, List.setIfInBounds_toArray, List.set_cons_zero, List.set_cons_succ]
          refine wpAnyG_one (i := 19) rfl (by kernel_rfl) (by rfl) (fun K hK => ?_)
          go_simp
          refine (left_1 _ (IC2.out.grow (Grow.refl _).drew) L HL.out).mono ?_
          rintro e w' ⟨rfl, rfl⟩
          refine hK.out _ _ (Grow.refl _) ?_
          clear hK K
          try simp only [Act.put, List.setIfInBounds_toArray, List.set_cons_zero, List.set_cons_succ]
          refine wpAnyG_take (i := 24) (v := ?v60) rfl (by kernel_rfl) (by kernel_rfl) (by kernel_rfl) (fun _ _ _ h => h) (by rfl) ?h60 ?r60
          case h60 => (intro wg hSw; go_simp <;> with_reducible rfl)
          simp only [Act.put, List.setIfInBounds_toArray, List.set_cons_zero, List.set_cons_succ]
          refine wpAnyG_take (i := 25) (v := ?v61) rfl (by kernel_rfl) (by kernel_rfl) (by kernel_rfl) (fun _ _ _ h => h) (by rfl) ?h61 ?r61
          case h61 => (intro wg hSw; go_simp <;> with_reducible rfl)
          simp only [Act.put, List.setIfInBounds_toArray, List.set_cons_zero, List.set_cons_succ]
          refine wpAnyG_take (i := 26) (v := ?v62) rfl (by kernel_rfl) (by kernel_rfl) (by kernel_rfl) (fun _ _ _ h => h) (by rfl) ?h62 ?r62
          case h62 => (intro wg hSw; go_simp <;> with_reducible rfl)
          simp only [Act.put, List.setIfInBounds_toArray, List.set_cons_zero, List.set_cons_succ]
          refine wpAnyG_take (i := 27) (v := ?v63) rfl (by kernel_rfl) (by kernel_rfl) (by kernel_rfl) (fun _ _ _ h => h) (by rfl) ?h63 ?r63
          case h63 => (intro wg hSw; go_simp <;> with_reducible rfl)
          simp only [Act.put, List.setIfInBounds_toArray, List.set_cons_zero, List.set_cons_succ]
          refine wpAnyG_take (i := 28) (v := ?v64) rfl (by kernel_rfl) (by kernel_rfl) (by kernel_rfl) (fun _ _ _ h => h) (by rfl) ?h64 ?r64
          case h64 => (intro wg hSw; go_simp <;> with_reducible rfl)
          simp only [Act.put, List.setIfInBounds_toArray, List.set_cons_zero, List.set_cons_succ]
          refine wpAnyG_take (i := 29) (v := ?v65) rfl (by kernel_rfl) (by kernel_rfl) (by kernel_rfl) (fun _ _ _ h => h) (by rfl) ?h65 ?r65
          case h65 => (intro wg hSw; go_simp <;> with_reducible rfl)
          simp only [Act.put, List.setIfInBounds_toArray, List.set_cons_zero, List.set_cons_succ]
          refine wpAnyG_take (i := 30) (v := ?v66) rfl (by kernel_rfl) (by kernel_rfl) (by kernel_rfl) (fun _ _ _ h => h) (by rfl) ?h66 ?r66
          case h66 => (intro wg hSw; go_simp <;> with_reducible rfl)
          simp only [Act.put, List.setIfInBounds_toArray, List.set_cons_zero, List.set_cons_succ]
          refine wpAnyG_take (i := 31) (v := ?v67) rfl (by kernel_rfl) (by kernel_rfl) (by kernel_rfl) (fun _ _ _ h => h) (by rfl) ?h67 ?r67
          case h67 => (intro wg hSw; go_simp <;> with_reducible rfl)
          simp only [Act.put, List.setIfInBounds_toArray, List.set_cons_zero, List.set_cons_succ]
          refine wpAnyG_take (i := 32) (v := ?v68) rfl (by kernel_rfl) (by kernel_rfl) (by kernel_rfl) (fun _ _ _ h => h) (by rfl) ?h68 ?r68
          case h68 => (intro wg hSw; go_simp <;> with_reducible rfl)
          simp only [Act.put, List.setIfInBounds_toArray, List.set_cons_zero, List.set_cons_succ]
          refine wpAnyG_take (i := 33) (v := ?v69) rfl (by kernel_rfl) (by kernel_rfl) (by kernel_rfl) (fun _ _ _ h => h) (by rfl) ?h69 ?r69
          case h69 => (intro wg hSw; go_simp <;> with_reducible rfl)
          simp only [Act.put, List.setIfInBounds_toArray, List.set_cons_zero, List.set_cons_succ]
          refine wpAnyG_take (i := 34) (v := ?v70) rfl (by kernel_rfl) (by kernel_rfl) (by kernel_rfl) (fun _ _ _ h => h) (by rfl) ?h70 ?r70
          case h70 => (intro wg hSw; go_simp <;> with_reducible rfl)
          simp only [Act.put, List.setIfInBounds_toArray, List.set_cons_zero, List.set_cons_succ]
          refine wpAnyG_take (i := 35) (v := ?v71) rfl (by kernel_rfl) (by kernel_rfl) (by kernel_rfl) (fun _ _ _ h => h) (by rfl) ?h71 ?r71
          case h71 => (intro wg hSw; go_simp <;> with_reducible rfl)
          simp only [Act.put, List.setIfInBounds_toArray, List.set_cons_zero, List.set_cons_succ]
          refine wpAnyG_take (i := 36) (v := ?v72) rfl (by kernel_rfl) (by kernel_rfl) (by kernel_rfl) (fun _ _ _ h => h) (by rfl) ?h72 ?r72
          case h72 => (intro wg hSw; go_simp <;> with_reducible rfl)
          simp only [Act.put, List.setIfInBounds_toArray, List.set_cons_zero, List.set_cons_succ]
          refine wpAnyG_take (i := 37) (v := ?v73) rfl (by kernel_rfl) (by kernel_rfl) (by kernel_rfl) (fun _ _ _ h => h) (by rfl) ?h73 ?r73
          case h73 => (intro wg hSw; go_simp <;> with_reducible rfl)
          simp only [Act.put, List.setIfInBounds_toArray, List.set_cons_zero, List.set_cons_succ]
          refine wpAnyG_take (i := 38) (v := ?v74) rfl (by kernel_rfl) (by kernel_rfl) (by kernel_rfl) (fun _ _ _ h => h) (by rfl) ?h74 ?r74
          case h74 => (intro wg hSw; go_simp <;> with_reducible rfl)
          simp only [Act.put, List.setIfInBounds_toArray, List.set_cons_zero, List.set_cons_succ]
          refine wpAnyG_take (i := 40) (v := ?v75) rfl (by kernel_rfl) (by kernel_rfl) (by kernel_rfl) (fun _ _ _ h => h) (by rfl) ?h75 ?r75
          case h75 => (intro wg hSw; go_simp <;> with_reducible rfl)
          simp only [Act.put, List.setIfInBounds_toArray, List.set_cons_zero, List.set_cons_succ]
          refine wpAnyG_one (i := 39) rfl (by kernel_rfl) (by rfl) (fun K hK => ?_)
          go_simp
          refine (fault_1 _ (IC2.out.grow (Grow.refl _).drew) 0 0 rfl rfl).mono ?_
          rintro e w9 ⟨rfl, hb9⟩
          refine hK.out _ _ (hb9) ?_
          clear hK K
          try simp only [Act.put, List.setIfInBounds_toArray, List.set_cons_zero, List.set_cons_succ]
          refine wpAnyG_take (i := 41) (v := ?v76) rfl (by kernel_rfl) (by kernel_rfl) (by kernel_rfl) (fun _ _ _ h => h) (by rfl) ?h76 ?r76
          case h76 => (intro wg hSw; go_simp <;> with_reducible rfl)
          simp only [Act.put, List.setIfInBounds_toArray, List.set_cons_zero, List.set_cons_succ]
          refine wpAnyG_take (i := 42) (v := ?v77) rfl (by kernel_rfl) (by kernel_rfl) (by kernel_rfl) (fun _ _ _ h => h) (by rfl) ?h77 ?r77
          case h77 => (intro wg hSw; go_simp <;> with_reducible rfl)
          simp only [Act.put, List.setIfInBounds_toArray, List.set_cons_zero, List.set_cons_succ]
          refine wpAnyG_take (i := 43) (v := ?v78) rfl (by kernel_rfl) (by kernel_rfl) (by kernel_rfl) (fun _ _ _ h => h) (by rfl) ?h78 ?r78
          case h78 => (intro wg hSw; go_simp <;> with_reducible rfl)
          simp only [Act.put, List.setIfInBounds_toArray, List.set_cons_zero, List.set_cons_succ]
          refine wpAnyG_done (by kernel_rfl) ?_
          clear hs1 hs2
          go_wp2
          go_ret
          exact ⟨rfl, HF.out.trans (Grow.of_drew hb9)⟩

theorem cuts_walk (A1 A2 : Option Addr) (n m c1 c2 : Nat) (bs l : List Int) (w : World) (h1 : bs.length = n) (h2 : l.length = m) (hn : n ≤ 9223372036854775807) (hm : m ≤ 9223372036854775807) (e1 : A1 = none → c1 = 0) (hcap1 : n ≤ c1)
    (b1 : Byt bs) (r1 : Nums .u8 w w.heap.size A1 bs) (r2 : Nums .i64 w w.heap.size A2 l) : Calls Try.prog 6 #[.slice A1 n c1, .slice A2 m c2] w (Fine w) := by
  by_cases h : n ≤ 500 ∧ m ≤ 100
  · exact cuts_yes A1 A2 n m c1 c2 bs l w h1 h2 h.1 h.2 e1 hcap1 b1 r1 r2
  · exact cuts_no A1 A2 n m c1 c2 w hn hm h
end Go.Proofs.Yteijplolmpffmaa
