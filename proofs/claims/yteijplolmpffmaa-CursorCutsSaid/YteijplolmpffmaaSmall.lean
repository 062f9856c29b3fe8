/-
  What the small case of the statements comes to: it answers true and turns nothing that was there.
-/
import Derived.Test.YteijplolmpffmaaOpens
namespace Go.Proofs.Yteijplolmpffmaa
open Go.RowKit

theorem grow_alloc' {w w' : World} {o : Obj} (h : Grow (w.alloc o) w') : Grow w w' := (grow_new w o).trans h

theorem open_lit (xs : List Int) (n : Int) (w : World) (hl : xs.length ≤ 1000000) :
    Calls Try.prog 9 #[.slice (some ⟨w.heap.size, 0, none⟩) xs.length xs.length, .int .i64 n] (w.alloc (.cells (xs.map (Value.int .u8)).toArray 5)) (Opened 44 (openS xs n) (w.alloc (.cells (xs.map (Value.int .u8)).toArray 5))) :=
  open_any _ _ _ xs n _ rfl hl (by simp) (lit_nums w .u8 5 xs)

def s0 : St := ⟨[5, 172, 2, 128], 10, 0, 0⟩
def s1 : St := ⟨[172, 2, 128], 11, 0, 0⟩
def s2 : St := ⟨[128], 13, 0, 0⟩
def s3 : St := ⟨[], 13, 2, 13⟩
def d0 : St := ⟨[9, 9], 0, 0, 0⟩
def d1 : St := ⟨[], 0, 3, 0⟩
theorem s0_ : openS [5, 172, 2, 128] 10 = s0 := rfl
theorem d0_ : openS [9, 9] (-3) = d0 := rfl
theorem g0 : Good s0 := ⟨by unfold Byt; decide, by decide, by decide, fun h => absurd rfl h⟩
theorem e0 : Good d0 := ⟨by unfold Byt; decide, by decide, by decide, fun h => absurd rfl h⟩
theorem s1_ : byteS s0 = (5, s1) := rfl
theorem s2_ : numS 300 s1 = (300, s2) := by
  have h : takeN [172, 2, 128] = (300, 2, 0) := by decide
  simp [numS, settleS, passS, s1, s2, h]
theorem s3_ : numS 9 s2 = (0, s3) := by
  have h : takeN [128] = (0, 0, 2) := by decide
  simp [numS, settleS, failS, s2, s3, h]
theorem d1_ : numS 8 d0 = (0, d1) := by
  have h : takeN [9, 9] = (9, 1, 0) := by decide
  simp [numS, settleS, failS, d0, d1, h]
theorem g1 : Good s1 := by have h := g0.byte; rw [s1_] at h; exact h
theorem g2 : Good s2 := by have h := g1.num 300; rw [s2_] at h; exact h
theorem g3 : Good s3 := by have h := g2.num 9; rw [s3_] at h; exact h

theorem byte_1 {t : TypeId} {S : Nat → Prop} {g : Nat} (w : World) (h : IsC t S w g s0) : Calls Try.prog 11 #[.pointer (some ⟨g, 0, none⟩)] w (Turns t S g (.int .u8 5) s1 w) := by
  have H := byte_any w h g0
  rw [s1_] at H
  exact H
theorem num_1 {t : TypeId} {S : Nat → Prop} {g : Nat} (w : World) (h : IsC t S w g s1) : Calls Try.prog 13 #[.pointer (some ⟨g, 0, none⟩), .int .i64 300] w (Turns t S g (.int .i64 300) s2 w) := by
  have H := num_any 300 w h g1 (by decide)
  rw [s2_] at H
  exact H
theorem num_2 {t : TypeId} {S : Nat → Prop} {g : Nat} (w : World) (h : IsC t S w g s2) : Calls Try.prog 13 #[.pointer (some ⟨g, 0, none⟩), .int .i64 9] w (Turns t S g (.int .i64 0) s3 w) := by
  have H := num_any 9 w h g2 (by decide)
  rw [s3_] at H
  exact H
theorem num_3 {t : TypeId} {S : Nat → Prop} {g : Nat} (w : World) (h : IsC t S w g d0) : Calls Try.prog 13 #[.pointer (some ⟨g, 0, none⟩), .int .i64 8] w (Turns t S g (.int .i64 0) d1 w) := by
  have H := num_any 8 w h e0 (by decide)
  rw [d1_] at H
  exact H
theorem fault_1 {t : TypeId} {S : Nat → Prop} {g : Nat} {s : St} (w : World) (h : IsC t S w g s) (x y : Int) (hx : s.e = x) (hy : s.q = y) : Calls Try.prog 25 #[.pointer (some ⟨g, 2, none⟩)] w (Says (x, y) w) := by
  subst hx hy
  exact fault_any w h
theorem end_1 {t : TypeId} {S : Nat → Prop} {g : Nat} {s : St} (w : World) (h : IsC t S w g s) (hg : Good s) (x y : Int) (hx : endS s = (x, y)) : Calls Try.prog 27 #[.pointer (some ⟨g, 0, none⟩)] w (Says (x, y) w) := by
  have H := end_any w h hg
  rw [hx] at H
  exact H
theorem left_1 {t : TypeId} {S : Nat → Prop} {g : Nat} {s : St} (w : World) (h : IsC t S w g s) (n : Nat) (hn : s.bs.length = n) : Calls Try.prog 21 #[.pointer (some ⟨g, 0, none⟩)] w fun e w' => e = .returned (.int .i64 (n : Nat)) ∧ w = w' := by
  subst hn
  exact left_any w h
theorem at_1 {t : TypeId} {S : Nat → Prop} {g : Nat} {s : St} (w : World) (h : IsC t S w g s) (n : Int) (hn : s.p = n) : Calls Try.prog 23 #[.pointer (some ⟨g, 0, none⟩)] w fun e w' => e = .returned (.int .i64 n) ∧ w = w' := by
  subst hn
  exact at_any w h

/-- a fault that lies in memory -/
theorem fault_cells {w : World} {b : Nat} {t : TypeId} {x y z : Value} (h : w.heap[b]? = some (.cells #[x, y, z] t (0, 0))) : w.cell? ⟨b, 0, none⟩ = some x ∧ w.cell? ⟨b, 1, none⟩ = some y ∧ w.cell? ⟨b, 2, none⟩ = some z :=
  ⟨cell_of_row w b 0 _ t (0, 0) h, cell_of_row w b 1 _ t (0, 0) h, cell_of_row w b 2 _ t (0, 0) h⟩

set_option linter.unusedSimpArgs false
set_option maxRecDepth 10000 in
set_option maxHeartbeats 1600000 in
theorem small_any (w : World) : Calls Try.prog 8 #[] w (Fine w) := by
  go_enter Try.func8, Try.ntmps8
  go_wp2_with fail
  refine (open_lit [5, 172, 2, 128] 10 w (by decide)).mono ?_
  rintro e w1 ⟨c, rfl, hc1, hc2, hb1, HC⟩
  have hb1' : Grow w w1 := grow_alloc' hb1
  simp only [World.size_alloc] at hc1
  rw [s0_] at HC
  have HC := Lib.hid HC
  clear hb1
  go_wp2_with fail
  refine (open_lit [9, 9] (-3) w1 (by decide)).mono ?_
  rintro e w2 ⟨d, rfl, hd1, hd2, hb2, HD⟩
  rw [d0_] at HD
  have hb2' : Grow w1 w2 := grow_alloc' hb2
  simp only [World.size_alloc] at hd1
  obtain ⟨S, hS⟩ : ∃ S : Nat → Prop, S = fun k => k = c ∨ k = d := ⟨_, rfl⟩
  have IC : IsC 44 S w2 c s0 := (HC.out S (by rw [hS]; exact .inl rfl) (fun k hk => by rw [hS] at hk; simp; omega)).grow hb2'
  have ID : IsC 44 S w2 d d0 := HD S (by rw [hS]; exact .inr rfl) (fun k hk => by rw [hS] at hk; simp; omega)
  have hcd : ¬ d = c := by omega
  have hSc : ∀ k, k = c → S k := fun k h => by rw [hS]; exact .inl h
  have hSd : ∀ k, k = d → S k := fun k h => by rw [hS]; exact .inr h
  have hsw : ∀ k, S k → w.heap.size ≤ k := fun k h => by rw [hS] at h; omega
  have HK := Lib.hid (hb1'.trans hb2')
  have ID := Lib.hid ID
  have IC := Lib.hid IC
  have HSC := Lib.hid hSc
  have HSD := Lib.hid hSd
  have HSW := Lib.hid hsw
  clear HC HD hb2 hb2' hb1' hS hSc hSd hsw
  go_wp2_with fail
  refine (byte_1 w2 IC.out).mono ?_
  rintro e w3 ⟨rfl, ic, k3⟩
  have IC3 := Lib.hid ic
  have ID3 := Lib.hid (ID.out.kept k3 HSC.out hcd)
  have HK3 := Lib.hid (Kept.grow HK.out (k3.mono HSC.out) HSW.out)
  clear ic k3 IC ID HK
  go_wp2_with fail
  refine (num_1 w3 IC3.out).mono ?_
  rintro e w4 ⟨rfl, ic, k3⟩
  have IC4 := Lib.hid ic
  have ID4 := Lib.hid (ID3.out.kept k3 HSC.out hcd)
  have HK4 := Lib.hid (Kept.grow HK3.out (k3.mono HSC.out) HSW.out)
  clear ic k3 IC3 ID3 HK3
  go_wp2_with fail
  refine (num_2 w4 IC4.out).mono ?_
  rintro e w5 ⟨rfl, ic, k3⟩
  have IC5 := Lib.hid ic
  have ID5 := Lib.hid (ID4.out.kept k3 HSC.out hcd)
  have HK5 := Lib.hid (Kept.grow HK4.out (k3.mono HSC.out) HSW.out)
  clear ic k3 IC4 ID4 HK4
  go_wp2_with fail
  refine (fault_1 w5 IC5.out 2 13 rfl rfl).mono ?_
  rintro e w6 ⟨rfl, hb6⟩
  have IC6 := Lib.hid (IC5.out.grow hb6)
  have ID6 := Lib.hid (ID5.out.grow hb6)
  have HK6 := Lib.hid (HK5.out.trans hb6)
  clear hb6 IC5 ID5 HK5
  go_wp2_with fail
  generalize hw7 : w6.alloc _ = w7
  have hb7 : Grow w6 w7 := by rw [← hw7]; exact grow_new _ _
  have hf7 : w7.heap[w6.heap.size]? = some (.cells #[.int .i64 2, .int .i64 0, .int .i64 13] 40 (0, 0)) := by rw [← hw7]; exact heap_alloc_new w6 _
  have hfl : w6.heap.size < w7.heap.size := by rw [← hw7]; simp
  have HF7 := Lib.hid hf7
  have IC7 := Lib.hid (IC6.out.grow hb7)
  have ID7 := Lib.hid (ID6.out.grow hb7)
  have HK7 := Lib.hid (HK6.out.trans hb7)
  have hdl := ID6.out.lt
  generalize w6.heap.size = b at *
  clear hw7 hb7 hf7 IC6 ID6 HK6
  refine (num_3 w7 ID7.out).mono ?_
  rintro e w8 ⟨rfl, ic, k3⟩
  have ID8 := Lib.hid ic
  have IC8 := Lib.hid (IC7.out.kept k3 HSD.out (fun h => hcd h.symm))
  have HK8 := Lib.hid (Kept.grow HK7.out (k3.mono HSD.out) HSW.out)
  have hf8 := (k3.block b hfl (by omega)).trans HF7.out
  have hbw : b < w8.heap.size := Nat.lt_of_lt_of_le hfl k3.size
  have hq : ∀ wg, Grow w8.drew wg → wg.cell? ⟨b, 0, none⟩ = some (.int .i64 2) ∧ wg.cell? ⟨b, 1, none⟩ = some (.int .i64 0) ∧ wg.cell? ⟨b, 2, none⟩ = some (.int .i64 13) := fun wg hg => fault_cells ((hg.block b hbw).trans hf8)
  have hq0 := fun wg hg => (hq wg hg).1
  have hq1 := fun wg hg => (hq wg hg).2.1
  have hq2 := fun wg hg => (hq wg hg).2.2
  clear ic k3 IC7 ID7 HK7 HF7 hf8 hq
  go_wp2
  refine wp_region_grow (n := 48) rfl (by kernel_rfl) ?_
  refine wpAnyG_take (i := 0) (v := ?v1) rfl (by kernel_rfl) (by kernel_rfl) (by kernel_rfl) (fun _ _ _ h => h) (by rfl) ?h1 ?r1
  case h1 => (intro wg hSw; go_simp <;> with_reducible rfl)
  simp only [Act.put, List.setIfInBounds_toArray, List.set_cons_zero, List.set_cons_succ]
  refine wpAnyG_take (i := 1) (v := ?v2) rfl (by kernel_rfl) (by kernel_rfl) (by kernel_rfl) (fun _ _ _ h => h) (by rfl) ?h2 ?r2
  case h2 => (intro wg hSw; go_simp <;> with_reducible rfl)
  simp only [Act.put, List.setIfInBounds_toArray, List.set_cons_zero, List.set_cons_succ]
  refine wpAnyG_take (i := 2) (v := ?v3) rfl (by kernel_rfl) (by kernel_rfl) (by kernel_rfl) (fun _ _ _ h => h) (by rfl) ?h3 ?r3
  case h3 => (intro wg hSw; go_simp <;> with_reducible rfl)
  simp only [Act.put, List.setIfInBounds_toArray, List.set_cons_zero, List.set_cons_succ]
  refine wpAnyG_take (i := 3) (v := ?v4) rfl (by kernel_rfl) (by kernel_rfl) (by kernel_rfl) (fun _ _ _ h => h) (by rfl) ?h4 ?r4
  case h4 => (intro wg hSw; go_simp <;> with_reducible rfl)
  simp only [Act.put, List.setIfInBounds_toArray, List.set_cons_zero, List.set_cons_succ]
  refine wpAnyG_take (i := 4) (v := ?v5) rfl (by kernel_rfl) (by kernel_rfl) (by kernel_rfl) (fun _ _ _ h => h) (by rfl) ?h5 ?r5
  case h5 => (intro wg hSw; go_simp <;> with_reducible rfl)
  simp only [Act.put, List.setIfInBounds_toArray, List.set_cons_zero, List.set_cons_succ]
  refine wpAnyG_take (i := 5) (v := ?v6) rfl (by kernel_rfl) (by kernel_rfl) (by kernel_rfl) (fun _ _ _ h => h) (by rfl) ?h6 ?r6
  case h6 => (intro wg hSw; go_simp <;> with_reducible rfl)
  simp only [Act.put, List.setIfInBounds_toArray, List.set_cons_zero, List.set_cons_succ]
  refine wpAnyG_take (i := 6) (v := ?v7) rfl (by kernel_rfl) (by kernel_rfl) (by kernel_rfl) (fun _ _ _ h => h) (by rfl) ?h7 ?r7
  case h7 => (intro wg hSw; go_simp <;> with_reducible rfl)
  simp only [Act.put, List.setIfInBounds_toArray, List.set_cons_zero, List.set_cons_succ]
  refine wpAnyG_take (i := 7) (v := ?v8) rfl (by kernel_rfl) (by kernel_rfl) (by kernel_rfl) (fun _ _ _ h => h) (by rfl) ?h8 ?r8
  case h8 => (intro wg hSw; go_simp <;> with_reducible rfl)
  simp only [Act.put, List.setIfInBounds_toArray, List.set_cons_zero, List.set_cons_succ]
  refine wpAnyG_take (i := 8) (v := ?v9) rfl (by kernel_rfl) (by kernel_rfl) (by kernel_rfl) (fun _ _ _ h => h) (by rfl) ?h9 ?r9
  case h9 => (intro wg hSw; go_simp <;> with_reducible rfl)
  simp only [Act.put, List.setIfInBounds_toArray, List.set_cons_zero, List.set_cons_succ]
  refine wpAnyG_take (i := 9) (v := ?v10) rfl (by kernel_rfl) (by kernel_rfl) (by kernel_rfl) (fun _ _ _ h => h) (by rfl) ?h10 ?r10
  case h10 => (intro wg hSw; go_simp <;> with_reducible rfl)
  simp only [Act.put, List.setIfInBounds_toArray, List.set_cons_zero, List.set_cons_succ]
  refine wpAnyG_take (i := 10) (v := ?v11) rfl (by kernel_rfl) (by kernel_rfl) (by kernel_rfl) (fun _ _ _ h => h) (by rfl) ?h11 ?r11
  case h11 => (intro wg hSw; go_simp <;> with_reducible rfl)
  simp only [Act.put, List.setIfInBounds_toArray, List.set_cons_zero, List.set_cons_succ]
  refine wpAnyG_take (i := 11) (v := ?v12) rfl (by kernel_rfl) (by kernel_rfl) (by kernel_rfl) (fun _ _ _ h => h) (by rfl) ?h12 ?r12
  case h12 => (intro wg hSw; go_simp <;> with_reducible rfl)
  simp only [Act.put, List.setIfInBounds_toArray, List.set_cons_zero, List.set_cons_succ]
  refine wpAnyG_take (i := 12) (v := ?v13) rfl (by kernel_rfl) (by kernel_rfl) (by kernel_rfl) (fun _ _ _ h => h) (by rfl) ?h13 ?r13
  case h13 => (intro wg hSw; go_simp <;> with_reducible rfl)
  simp only [Act.put, List.setIfInBounds_toArray, List.set_cons_zero, List.set_cons_succ]
  refine wpAnyG_take (i := 13) (v := ?v14) rfl (by kernel_rfl) (by kernel_rfl) (by kernel_rfl) (fun _ _ _ h => h) (by rfl) ?h14 ?r14
  case h14 => (intro wg hSw; go_simp <;> with_reducible rfl)
  simp only [Act.put, List.setIfInBounds_toArray, List.set_cons_zero, List.set_cons_succ]
  refine wpAnyG_take (i := 14) (v := ?v15) rfl (by kernel_rfl) (by kernel_rfl) (by kernel_rfl) (fun _ _ _ h => h) (by rfl) ?h15 ?r15
  case h15 => (intro wg hSw; go_simp <;> with_reducible rfl)
  simp only [Act.put, List.setIfInBounds_toArray, List.set_cons_zero, List.set_cons_succ]
  refine wpAnyG_take (i := 15) (v := ?v16) rfl (by kernel_rfl) (by kernel_rfl) (by kernel_rfl) (fun _ _ _ h => h) (by rfl) ?h16 ?r16
  case h16 => (intro wg hSw; go_simp <;> with_reducible rfl)
  simp only [Act.put, List.setIfInBounds_toArray, List.set_cons_zero, List.set_cons_succ]
  refine wpAnyG_take (i := 16) (v := ?v17) rfl (by kernel_rfl) (by kernel_rfl) (by kernel_rfl) (fun _ _ _ h => h) (by rfl) ?h17 ?r17
  case h17 => (intro wg hSw; go_simp <;> with_reducible rfl)
  simp only [Act.put, List.setIfInBounds_toArray, List.set_cons_zero, List.set_cons_succ]
  refine wpAnyG_take (i := 17) (v := ?v18) rfl (by kernel_rfl) (by kernel_rfl) (by kernel_rfl) (fun _ _ _ h => h) (by rfl) ?h18 ?r18
  case h18 => (intro wg hSw; go_simp <;> with_reducible rfl)
  simp only [Act.put, List.setIfInBounds_toArray, List.set_cons_zero, List.set_cons_succ]
  refine wpAnyG_take (i := 18) (v := ?v19) rfl (by kernel_rfl) (by kernel_rfl) (by kernel_rfl) (fun _ _ _ h => h) (by rfl) ?h19 ?r19
  case h19 => (intro wg hSw; go_simp <;> with_reducible rfl)
  simp only [Act.put, List.setIfInBounds_toArray, List.set_cons_zero, List.set_cons_succ]
  refine wpAnyG_one (i := 19) rfl (by kernel_rfl) (by rfl) (fun K hK => ?_)
  go_simp
  refine (at_1 _ (IC8.out.grow (Grow.refl _).drew) 13 rfl).mono ?_
  rintro e w' ⟨rfl, rfl⟩
  refine hK.out _ _ (Grow.refl _) ?_
  clear hK K
  try simp only [Act.put, List.setIfInBounds_toArray, List.set_cons_zero, List.set_cons_succ]
  refine wpAnyG_take (i := 20) (v := ?v20) rfl (by kernel_rfl) (by kernel_rfl) (by kernel_rfl) (fun _ _ _ h => h) (by rfl) ?h20 ?r20
  case h20 => (intro wg hSw; go_simp <;> with_reducible rfl)
  simp only [Act.put, List.setIfInBounds_toArray, List.set_cons_zero, List.set_cons_succ]
  refine wpAnyG_take (i := 21) (v := ?v21) rfl (by kernel_rfl) (by kernel_rfl) (by kernel_rfl) (fun _ _ _ h => h) (by rfl) ?h21 ?r21
  case h21 => (intro wg hSw; go_simp <;> with_reducible rfl)
  simp only [Act.put, List.setIfInBounds_toArray, List.set_cons_zero, List.set_cons_succ]
  refine wpAnyG_take (i := 22) (v := ?v22) rfl (by kernel_rfl) (by kernel_rfl) (by kernel_rfl) (fun _ _ _ h => h) (by rfl) ?h22 ?r22
  case h22 => (intro wg hSw; go_simp <;> with_reducible rfl)
  simp only [Act.put, List.setIfInBounds_toArray, List.set_cons_zero, List.set_cons_succ]
  refine wpAnyG_take (i := 23) (v := ?v23) rfl (by kernel_rfl) (by kernel_rfl) (by kernel_rfl) (fun _ _ _ h => h) (by rfl) ?h23 ?r23
  case h23 => (intro wg hSw; go_simp <;> with_reducible rfl)
  simp only [Act.put, List.setIfInBounds_toArray, List.set_cons_zero, List.set_cons_succ]
  refine wpAnyG_take (i := 24) (v := ?v24) rfl (by kernel_rfl) (by kernel_rfl) (by kernel_rfl) (fun _ _ _ h => h) (by rfl) ?h24 ?r24
  case h24 => (intro wg hSw; go_simp <;> with_reducible rfl)
  simp only [Act.put, List.setIfInBounds_toArray, List.set_cons_zero, List.set_cons_succ]
  refine wpAnyG_take (i := 25) (v := ?v25) rfl (by kernel_rfl) (by kernel_rfl) (by kernel_rfl) (fun _ _ _ h => h) (by rfl) ?h25 ?r25
  case h25 => (intro wg hSw; go_simp <;> with_reducible rfl)
  simp only [Act.put, List.setIfInBounds_toArray, List.set_cons_zero, List.set_cons_succ]
  refine wpAnyG_one (i := 26) rfl (by kernel_rfl) (by rfl) (fun K hK => ?_)
  go_simp
  refine (left_1 _ (IC8.out.grow (Grow.refl _).drew) 0 rfl).mono ?_
  rintro e w' ⟨rfl, rfl⟩
  refine hK.out _ _ (Grow.refl _) ?_
  clear hK K
  try simp only [Act.put, List.setIfInBounds_toArray, List.set_cons_zero, List.set_cons_succ]
  refine wpAnyG_take (i := 27) (v := ?v26) rfl (by kernel_rfl) (by kernel_rfl) (by kernel_rfl) (fun _ _ _ h => h) (by rfl) ?h26 ?r26
  case h26 => (intro wg hSw; go_simp <;> with_reducible rfl)
  simp only [Act.put, List.setIfInBounds_toArray, List.set_cons_zero, List.set_cons_succ]
  refine wpAnyG_take (i := 28) (v := ?v27) rfl (by kernel_rfl) (by kernel_rfl) (by kernel_rfl) (fun _ _ _ h => h) (by rfl) ?h27 ?r27
  case h27 => (intro wg hSw; go_simp <;> with_reducible rfl)
  simp only [Act.put, List.setIfInBounds_toArray, List.set_cons_zero, List.set_cons_succ]
  refine wpAnyG_take (i := 29) (v := ?v28) rfl (by kernel_rfl) (by kernel_rfl) (by kernel_rfl) (fun _ _ _ h => h) (by rfl) ?h28 ?r28
  case h28 => (intro wg hSw; go_simp <;> with_reducible rfl)
  simp only [Act.put, List.setIfInBounds_toArray, List.set_cons_zero, List.set_cons_succ]
  refine wpAnyG_take (i := 30) (v := ?v29) rfl (by kernel_rfl) (by kernel_rfl) (by kernel_rfl) (fun _ _ _ h => h) (by rfl) ?h29 ?r29
  case h29 => (intro wg hSw; go_simp <;> with_reducible rfl)
  simp only [Act.put, List.setIfInBounds_toArray, List.set_cons_zero, List.set_cons_succ]
  refine wpAnyG_take (i := 32) (v := ?v30) rfl (by kernel_rfl) (by kernel_rfl) (by kernel_rfl) (fun _ _ _ h => h) (by rfl) ?h30 ?r30
  case h30 => (intro wg hSw; go_simp <;> with_reducible rfl)
  simp only [Act.put, List.setIfInBounds_toArray, List.set_cons_zero, List.set_cons_succ]
  refine wpAnyG_one (i := 31) rfl (by kernel_rfl) (by rfl) (fun K hK => ?_)
  go_simp
  refine (end_1 _ (IC8.out.grow (Grow.refl _).drew) g3 2 13 rfl).mono ?_
  rintro e w9 ⟨rfl, hb9⟩
  refine hK.out _ _ (hb9) ?_
  clear hK K
  try simp only [Act.put, List.setIfInBounds_toArray, List.set_cons_zero, List.set_cons_succ]
  refine wpAnyG_take (i := 33) (v := ?v31) rfl (by kernel_rfl) (by kernel_rfl) (by kernel_rfl) (fun _ _ _ h => h) (by rfl) ?h31 ?r31
  case h31 => (intro wg hSw; go_simp <;> with_reducible rfl)
  simp only [Act.put, List.setIfInBounds_toArray, List.set_cons_zero, List.set_cons_succ]
  refine wpAnyG_take (i := 34) (v := ?v32) rfl (by kernel_rfl) (by kernel_rfl) (by kernel_rfl) (fun _ _ _ h => h) (by rfl) ?h32 ?r32
  case h32 => (intro wg hSw; go_simp <;> with_reducible rfl)
  simp only [Act.put, List.setIfInBounds_toArray, List.set_cons_zero, List.set_cons_succ]
  refine wpAnyG_take (i := 35) (v := ?v33) rfl (by kernel_rfl) (by kernel_rfl) (by kernel_rfl) (fun _ _ _ h => h) (by rfl) ?h33 ?r33
  case h33 => (intro wg hSw; go_simp <;> with_reducible rfl)
  simp only [Act.put, List.setIfInBounds_toArray, List.set_cons_zero, List.set_cons_succ]
  refine wpAnyG_take (i := 36) (v := ?v34) rfl (by kernel_rfl) (by kernel_rfl) (by kernel_rfl) (fun _ _ _ h => h) (by rfl) ?h34 ?r34
  case h34 => (intro wg hSw; go_simp <;> with_reducible rfl)
  simp only [Act.put, List.setIfInBounds_toArray, List.set_cons_zero, List.set_cons_succ]
  refine wpAnyG_take (i := 37) (v := ?v35) rfl (by kernel_rfl) (by kernel_rfl) (by kernel_rfl) (fun _ _ _ h => h) (by rfl) ?h35 ?r35
  case h35 => (intro wg hSw; go_simp <;> with_reducible rfl)
  simp only [Act.put, List.setIfInBounds_toArray, List.set_cons_zero, List.set_cons_succ]
  refine wpAnyG_take (i := 38) (v := ?v36) rfl (by kernel_rfl) (by kernel_rfl) (by kernel_rfl) (fun _ _ _ h => h) (by rfl) ?h36 ?r36
  case h36 => (intro wg hSw; go_simp <;> with_reducible rfl)
  simp only [Act.put, List.setIfInBounds_toArray, List.set_cons_zero, List.set_cons_succ]
  refine wpAnyG_take (i := 39) (v := ?v37) rfl (by kernel_rfl) (by kernel_rfl) (by kernel_rfl) (fun _ _ _ h => h) (by rfl) ?h37 ?r37
  case h37 => (intro wg hSw; go_simp <;> with_reducible rfl)
  simp only [Act.put, List.setIfInBounds_toArray, List.set_cons_zero, List.set_cons_succ]
  refine wpAnyG_take (i := 40) (v := ?v38) rfl (by kernel_rfl) (by kernel_rfl) (by kernel_rfl) (fun _ _ _ h => h) (by rfl) ?h38 ?r38
  case h38 => (intro wg hSw; go_simp <;> with_reducible rfl)
  simp only [Act.put, List.setIfInBounds_toArray, List.set_cons_zero, List.set_cons_succ]
  refine wpAnyG_take (i := 41) (v := ?v39) rfl (by kernel_rfl) (by kernel_rfl) (by kernel_rfl) (fun _ _ _ h => h) (by rfl) ?h39 ?r39
  case h39 => (intro wg hSw; go_simp <;> with_reducible rfl)
  simp only [Act.put, List.setIfInBounds_toArray, List.set_cons_zero, List.set_cons_succ]
  refine wpAnyG_take (i := 42) (v := ?v40) rfl (by kernel_rfl) (by kernel_rfl) (by kernel_rfl) (fun _ _ _ h => h) (by rfl) ?h40 ?r40
  case h40 => (intro wg hSw; go_simp <;> with_reducible rfl)
  simp only [Act.put, List.setIfInBounds_toArray, List.set_cons_zero, List.set_cons_succ]
  refine wpAnyG_take (i := 44) (v := ?v41) rfl (by kernel_rfl) (by kernel_rfl) (by kernel_rfl) (fun _ _ _ h => h) (by rfl) ?h41 ?r41
  case h41 => (intro wg hSw; go_simp <;> with_reducible rfl)
  simp only [Act.put, List.setIfInBounds_toArray, List.set_cons_zero, List.set_cons_succ]
  refine wpAnyG_one (i := 43) rfl (by kernel_rfl) (by rfl) (fun K hK => ?_)
  go_simp
  refine (fault_1 _ (ID8.out.grow ((Grow.refl _).drew.trans hb9)) 3 0 rfl rfl).mono ?_
  rintro e w10 ⟨rfl, hb10⟩
  refine hK.out _ _ (hb10) ?_
  clear hK K
  try simp only [Act.put, List.setIfInBounds_toArray, List.set_cons_zero, List.set_cons_succ]
  refine wpAnyG_take (i := 45) (v := ?v42) rfl (by kernel_rfl) (by kernel_rfl) (by kernel_rfl) (fun _ _ _ h => h) (by rfl) ?h42 ?r42
  case h42 => (intro wg hSw; go_simp <;> with_reducible rfl)
  simp only [Act.put, List.setIfInBounds_toArray, List.set_cons_zero, List.set_cons_succ]
  refine wpAnyG_take (i := 46) (v := ?v43) rfl (by kernel_rfl) (by kernel_rfl) (by kernel_rfl) (fun _ _ _ h => h) (by rfl) ?h43 ?r43
  case h43 => (intro wg hSw; go_simp <;> with_reducible rfl)
  simp only [Act.put, List.setIfInBounds_toArray, List.set_cons_zero, List.set_cons_succ]
  refine wpAnyG_take (i := 47) (v := ?v44) rfl (by kernel_rfl) (by kernel_rfl) (by kernel_rfl) (fun _ _ _ h => h) (by rfl) ?h44 ?r44
  case h44 => (intro wg hSw; go_simp <;> with_reducible rfl)
  simp only [Act.put, List.setIfInBounds_toArray, List.set_cons_zero, List.set_cons_succ]
  refine wpAnyG_done (by kernel_rfl) ?_
  go_wp2
  go_ret
  exact ⟨rfl, (HK8.out.trans (Grow.of_drew hb9)).trans hb10⟩
end Go.Proofs.Yteijplolmpffmaa
