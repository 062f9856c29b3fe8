/-
  What the document's own Open comes to.
-/
import Derived.Test.YtbpdjohbbhblcaaRef
import Derived.Test.YtbpdjohbbhblcaaBursts
namespace Go.Proofs.Ytbpdjohbbhblcaa
open Go.RowKit
set_option linter.unusedSimpArgs false

def Got (X : List Int) (ok : Bool) (w : World) (e : Ending) (w' : World) : Prop :=
  ∃ A c, e = .returned (.tuple #[.slice A X.length c, .bool ok]) ∧ Nums .u8 w' w'.heap.size A X ∧ Grow w w'

def GaveN (N : Nat) (bs : List Int) (w : World) (e : Ending) (w' : World) : Prop :=
  ∃ A cap, e = .returned (.slice A N cap) ∧ Nums .u8 w' w'.heap.size A bs ∧ Grow w w'
theorem rseal_n (A : Option Addr) (cap n N : Nat) (cs : Array Value) (T : Nat → Nat) (bs : List Int) (w : World) (hT : IsTab cs T) (hn : bs.length = n) (hN : N = n + 4) (hl : n ≤ 100000) (hc : A = none → cap = 0) (hb : Byt bs) (hr : Nums .u8 w w.heap.size A bs) :
    Calls Try.prog 20 #[.agg cs, .slice A n cap] w (GaveN N (sealN T bs) w) := by
  refine (rseal_any A cap n cs T bs w hT hn hl hc hb hr).mono ?_
  rintro e w' ⟨A', c', rfl, _, h, hg⟩
  have hl' : (sealN T bs).length = N := by rw [sealN_len, hn, hN]
  rw [hl']
  exact ⟨A', c', rfl, h, hg⟩

set_option maxRecDepth 10000 in
set_option maxHeartbeats 400000 in
theorem ropen_short (A : Option Addr) (len cap : Nat) (cs : Array Value) (w : World) (hl : len < 4) : Calls Try.prog 14 #[.agg cs, .slice A len cap] w (Got [] false w) := by
  have hb1 : Grow w (w.alloc (.cells cs 24)) := grow_new _ _
  have hlt : decide ((len : Int) - 4 < 0) = true := by simp; omega
  go_enter Try.func14, Try.ntmps14
  go_wp2
  refine wp_region_R Grow (n := 13) rfl (by kernel_rfl) ?_
  intro W0 hW0e hW0
  have hb0 := hb1.trans hW0
  clear hW0e
  refine wpR_take growOrd (i := 0) (v := ?vf1) rfl (by kernel_rfl) (by kernel_rfl) (by kernel_rfl) (fun _ _ _ h => h) (by rfl) ?hf1 ?rf1
  case hf1 => (intro wg hSw; go_simp <;> with_reducible rfl)
  simp only [Act.put, List.setIfInBounds_toArray, List.set_cons_zero, List.set_cons_succ]
  refine wpR_take growOrd (i := 1) (v := ?vf2) rfl (by kernel_rfl) (by kernel_rfl) (by kernel_rfl) (fun _ _ _ h => h) (by rfl) ?hf2 ?rf2
  case hf2 => (intro wg hSw; go_simp <;> with_reducible rfl)
  simp only [Act.put, List.setIfInBounds_toArray, List.set_cons_zero, List.set_cons_succ]
  refine wpR_take growOrd (i := 2) (v := ?vf3) rfl (by kernel_rfl) (by kernel_rfl) (by kernel_rfl) (fun _ _ _ h => h) (by rfl) ?hf3 ?rf3
  case hf3 => (intro wg hSw; go_simp <;> with_reducible rfl)
  simp only [Act.put, List.setIfInBounds_toArray, List.set_cons_zero, List.set_cons_succ]
  refine wpR_pass growOrd (i := 3) rfl (by kernel_rfl) (by kernel_rfl) (by kernel_rfl) (fun _ _ _ h => h) (by rfl) ?_
  simp only [Act.put, List.setIfInBounds_toArray, List.set_cons_zero, List.set_cons_succ]
  refine wpR_pass growOrd (i := 4) rfl (by kernel_rfl) (by kernel_rfl) (by kernel_rfl) (fun _ _ _ h => h) (by rfl) ?_
  simp only [Act.put, List.setIfInBounds_toArray, List.set_cons_zero, List.set_cons_succ]
  refine wpR_pass growOrd (i := 5) rfl (by kernel_rfl) (by kernel_rfl) (by kernel_rfl) (fun _ _ _ h => h) (by rfl) ?_
  simp only [Act.put, List.setIfInBounds_toArray, List.set_cons_zero, List.set_cons_succ]
  refine wpR_pass growOrd (i := 6) rfl (by kernel_rfl) (by kernel_rfl) (by kernel_rfl) (fun _ _ _ h => h) (by rfl) ?_
  simp only [Act.put, List.setIfInBounds_toArray, List.set_cons_zero, List.set_cons_succ]
  refine wpR_pass growOrd (i := 7) rfl (by kernel_rfl) (by kernel_rfl) (by kernel_rfl) (fun _ _ _ h => h) (by rfl) ?_
  simp only [Act.put, List.setIfInBounds_toArray, List.set_cons_zero, List.set_cons_succ]
  refine wpR_pass growOrd (i := 8) rfl (by kernel_rfl) (by kernel_rfl) (by kernel_rfl) (fun _ _ _ h => h) (by rfl) ?_
  simp only [Act.put, List.setIfInBounds_toArray, List.set_cons_zero, List.set_cons_succ]
  refine wpR_pass growOrd (i := 9) rfl (by kernel_rfl) (by kernel_rfl) (by kernel_rfl) (fun _ _ _ h => h) (by rfl) ?_
  simp only [Act.put, List.setIfInBounds_toArray, List.set_cons_zero, List.set_cons_succ]
  refine wpR_pass growOrd (i := 10) rfl (by kernel_rfl) (by kernel_rfl) (by kernel_rfl) (fun _ _ _ h => h) (by rfl) ?_
  simp only [Act.put, List.setIfInBounds_toArray, List.set_cons_zero, List.set_cons_succ]
  refine wpR_pass growOrd (i := 11) rfl (by kernel_rfl) (by kernel_rfl) (by kernel_rfl) (fun _ _ _ h => h) (by rfl) ?_
  simp only [Act.put, List.setIfInBounds_toArray, List.set_cons_zero, List.set_cons_succ]
  refine wpR_take growOrd (i := 12) (v := ?vf4) rfl (by kernel_rfl) (by kernel_rfl) (by kernel_rfl) (fun _ _ _ h => h) (by rfl) ?hf4 ?rf4
  case hf4 => (intro wg hSw; go_simp <;> with_reducible rfl)
  simp only [Act.put, List.setIfInBounds_toArray, List.set_cons_zero, List.set_cons_succ]
  refine wpR_done (by kernel_rfl) ?_
  go_wp2
  go_ret2
  exact ⟨none, 0, rfl, Nums.none_, hb0⟩

theorem seal_iff {T : Nat → Nat} (hT : Small T) {bs : List Int} {n : Nat} (hb : Byt bs) (hn : bs.length = n + 4) : sealN T (bs.take n) = bs ↔ moreN T 0 (bs.take n) = le (bs.drop n) := by
  have hd : (bs.drop n).length = 4 := by rw [List.length_drop, hn]; omega
  have hlt := moreN_lt hT 0 (bs.take n) (by decide)
  constructor
  · intro h
    have h1 : (sealN T (bs.take n)).drop n = bs.drop n := by rw [h]
    have hl : (bs.take n).length = n := by rw [List.length_take, hn]; omega
    have h2 := sealed_drop T (bs.take n)
    rw [hl] at h2
    rw [← h1, h2, le_le4 _ hlt]
  · intro h
    unfold sealN
    rw [h, le4_le (hb.drop n) hd, List.take_append_drop]

theorem str_bne {a b : List Int} (ha : Byt a) (hb : Byt b) (h : a ≠ b) : ((strOfNums a).toList == (strOfNums b).toList) = false := by
  rw [beq_eq_false_iff_ne]
  exact fun e => h ((str_inj a b ha hb).1 e)

set_option maxRecDepth 10000 in
set_option maxHeartbeats 800000 in
theorem ropen_no (b off n N cap : Nat) (cs : Array Value) (T : Nat → Nat) (bs : List Int) (w : World) (hT : IsTab cs T) (hl : bs.length = N) (hN : N = n + 4) (hm : n ≤ 100000) (hcap : N ≤ cap) (hb : Byt bs) (hr : Nums .u8 w w.heap.size (some ⟨b, off, none⟩) bs)
    (hne : moreN T 0 (bs.take n) ≠ le (bs.drop n)) : Calls Try.prog 14 #[.agg cs, .slice (some ⟨b, off, none⟩) N cap] w (Got [] false w) := by
  have hb1 : Grow w (w.alloc (.cells cs 24)) := grow_new _ _
  have hg1 := heap_alloc_new w (.cells cs 24)
  have hlt1 : w.heap.size < (w.alloc (.cells cs 24)).heap.size := by simp
  have hlt : decide ((n : Int) < 0) = false := by simp
  have hsub : (N : Int) - 4 = (n : Int) := by omega
  have hcn : n ≤ cap := by omega
  have hse : sealN T (bs.take n) ≠ bs := fun h => hne ((seal_iff hT.2.2 hb (by rw [hl, hN])).1 h)
  have hstr := str_bne (sealed_byt (hb.take n)) hb hse
  have hs := hT.1
  have HT := Lib.hid hT
  have HN := Lib.hid hN
  have HL := Lib.hid hl
  have HB := Lib.hid hb
  have HR1 := Lib.hid (hr.grow hb1)
  have HB1 := Lib.hid hb1
  have hNb : N ≤ 100004 := by omega
  obtain ⟨s1, hs1⟩ : ∃ s, strOfNums (sealN T (bs.take n)) = s := ⟨_, rfl⟩
  obtain ⟨s2, hs2⟩ : ∃ s, strOfNums bs = s := ⟨_, rfl⟩
  rw [hs1, hs2] at hstr
  have HS1 := Lib.hid hs1
  have HS2 := Lib.hid hs2
  clear hr hT hN hl hb hne hse hb1 hs1 hs2
  go_enter Try.func14, Try.ntmps14
  go_wp2
  generalize w.alloc (.cells cs 24) = w1 at *
  refine wp_region_R Grow (n := 13) rfl (by kernel_rfl) ?_
  intro W0 hW0e hW0
  have htb : ∀ wg, Grow W0 wg → wg.heap[w.heap.size]? = some (.cells cs 24 (0, 0)) := fun wg hg => ((hW0.trans hg).block w.heap.size hlt1).trans hg1
  have HR0 := Lib.hid (HR1.out.grow hW0)
  have hcb : ∀ wg, Grow W0 wg → (convert 28 9 (.slice (some ⟨b, off, none⟩) N cap)).run Try.prog wg = .ok (.string s2) wg := fun wg hg => by rw [← HS2.out]; exact conv_n cap (HR0.out.grow hg) HL.out
  clear hW0e
  refine wpR_take growOrd (i := 0) (v := ?vf5) rfl (by kernel_rfl) (by kernel_rfl) (by kernel_rfl) (fun _ _ _ h => h) (by rfl) ?hf5 ?rf5
  case hf5 => (intro wg hSw; go_simp <;> with_reducible rfl)
  simp only [Act.put, List.setIfInBounds_toArray, List.set_cons_zero, List.set_cons_succ]
  refine wpR_take growOrd (i := 1) (v := ?vf6) rfl (by kernel_rfl) (by kernel_rfl) (by kernel_rfl) (fun _ _ _ h => h) (by rfl) ?hf6 ?rf6
  case hf6 => (intro wg hSw; go_simp <;> with_reducible rfl)
  simp only [Act.put, List.setIfInBounds_toArray, List.set_cons_zero, List.set_cons_succ]
  refine wpR_take growOrd (i := 2) (v := ?vf7) rfl (by kernel_rfl) (by kernel_rfl) (by kernel_rfl) (fun _ _ _ h => h) (by rfl) ?hf7 ?rf7
  case hf7 => (intro wg hSw; go_simp <;> with_reducible rfl)
  simp only [Act.put, List.setIfInBounds_toArray, List.set_cons_zero, List.set_cons_succ]
  refine wpR_take growOrd (i := 3) (v := Value.agg cs) rfl (by kernel_rfl) (by kernel_rfl) (by kernel_rfl) (fun _ _ _ h => h) (by rfl) ?hf8 ?rf8
  case hf8 => exact fun wg hSw => exec_tab rfl rfl (htb wg (Grow.trans (Grow.refl W0) hSw)) hs
  simp only [Act.put, List.setIfInBounds_toArray, List.set_cons_zero, List.set_cons_succ]
  refine wpR_take growOrd (i := 4) (v := ?vf9) rfl (by kernel_rfl) (by kernel_rfl) (by kernel_rfl) (fun _ _ _ h => h) (by rfl) ?hf9 ?rf9
  case hf9 => (intro wg hSw; go_simp <;> with_reducible rfl)
  simp only [Act.put, List.setIfInBounds_toArray, List.set_cons_zero, List.set_cons_succ]
  refine wpR_take growOrd (i := 5) (v := ?vf10) rfl (by kernel_rfl) (by kernel_rfl) (by kernel_rfl) (fun _ _ _ h => h) (by rfl) ?hf10 ?rf10
  case hf10 => (intro wg hSw; go_simp <;> with_reducible rfl)
  simp only [Act.put, List.setIfInBounds_toArray, List.set_cons_zero, List.set_cons_succ]
  refine wpR_take growOrd (i := 6) (v := ?vf11) rfl (by kernel_rfl) (by kernel_rfl) (by kernel_rfl) (fun _ _ _ h => h) (by rfl) ?hf11 ?rf11
  case hf11 => (intro wg hSw; go_simp <;> with_reducible rfl)
  simp only [Act.put, List.setIfInBounds_toArray, List.set_cons_zero, List.set_cons_succ]
  refine wpR_take growOrd (i := 9) (v := ?vf12) rfl (by kernel_rfl) (by kernel_rfl) (by kernel_rfl) (fun _ _ _ h => h) (by rfl) ?hf12 ?rf12
  case hf12 => (intro wg hSw; go_simp <;> with_reducible rfl)
  simp only [Act.put, List.setIfInBounds_toArray, List.set_cons_zero, List.set_cons_succ]
  refine wpR_take growOrd (i := 10) (v := ?vf13) rfl (by kernel_rfl) (by kernel_rfl) (by kernel_rfl) (fun _ _ _ h => h) (by rfl) ?hf13 ?rf13
  case hf13 => (intro wg hSw; go_simp <;> with_reducible rfl)
  simp only [Act.put, List.setIfInBounds_toArray, List.set_cons_zero, List.set_cons_succ]
  refine wpR_one (i := 7) (by kernel_rfl) ?_
  refine wpR_op (i := 7) rfl (by rfl) (fun K hK => ?_)
  go_simp
  refine (rseal_n (some ⟨b, off, none⟩) cap n N cs T (bs.take n) W0 HT.out (by rw [List.length_take, HL.out, HN.out]; omega) HN.out hm (by simp) (HB.out.take n) (HR0.out.take n)).mono ?_
  rintro e wM7 ⟨A', c', rfl, hnum7, hM7⟩
  have HN7 := Lib.hid hnum7
  have hc7 : ∀ wg, Grow wM7 wg → (convert 28 9 (.slice A' N c')).run Try.prog wg = .ok (.string s1) wg := fun wg hg => by
    rw [← HS1.out]
    exact conv_n c' (HN7.out.grow hg) (by rw [sealN_len, List.length_take, HL.out, HN.out]; omega)
  clear hnum7 hcb
  refine hK.out _ _ hM7 ?_
  clear hK K
  try simp only [Act.put, List.setIfInBounds_toArray, List.set_cons_zero, List.set_cons_succ]
  refine wpR_take growOrd (i := 8) (v := ?vf14) rfl (by kernel_rfl) (by kernel_rfl) (by kernel_rfl) (fun _ _ _ h => h) (by rfl) ?hf14 ?rf14
  case hf14 => (intro wg hSw; go_simp <;> with_reducible rfl)
  simp only [Act.put, List.setIfInBounds_toArray, List.set_cons_zero, List.set_cons_succ]
  refine wpR_take growOrd (i := 11) (v := ?vf15) rfl (by kernel_rfl) (by kernel_rfl) (by kernel_rfl) (fun _ _ _ h => h) (by rfl) ?hf15 ?rf15
  case hf15 => (intro wg hSw; go_simp <;> with_reducible rfl)
  simp only [Act.put, List.setIfInBounds_toArray, List.set_cons_zero, List.set_cons_succ]
  refine wpR_take growOrd (i := 12) (v := ?vf16) rfl (by kernel_rfl) (by kernel_rfl) (by kernel_rfl) (fun _ _ _ h => h) (by rfl) ?hf16 ?rf16
  case hf16 => (intro wg hSw; go_simp <;> with_reducible rfl)
  simp only [Act.put, List.setIfInBounds_toArray, List.set_cons_zero, List.set_cons_succ]
  refine wpR_done (by kernel_rfl) ?_
  go_wp2
  go_ret2
  exact ⟨none, 0, rfl, Nums.none_, (HB1.out.trans hW0).trans (Grow.trans (Grow.refl W0) hM7)⟩
set_option maxRecDepth 10000 in
set_option maxHeartbeats 800000 in
theorem ropen_yes (b off n N cap : Nat) (cs : Array Value) (T : Nat → Nat) (bs : List Int) (w : World) (hT : IsTab cs T) (hl : bs.length = N) (hN : N = n + 4) (hm : n ≤ 100000) (hcap : N ≤ cap) (hb : Byt bs) (hr : Nums .u8 w w.heap.size (some ⟨b, off, none⟩) bs)
    (heq : moreN T 0 (bs.take n) = le (bs.drop n)) : Calls Try.prog 14 #[.agg cs, .slice (some ⟨b, off, none⟩) N cap] w (Got (bs.take n) true w) := by
  have hb1 : Grow w (w.alloc (.cells cs 24)) := grow_new _ _
  have hg1 := heap_alloc_new w (.cells cs 24)
  have hlt1 : w.heap.size < (w.alloc (.cells cs 24)).heap.size := by simp
  have hlt : decide ((n : Int) < 0) = false := by simp
  have hsub : (N : Int) - 4 = (n : Int) := by omega
  have hcn : n ≤ cap := by omega
  have hse : sealN T (bs.take n) = bs := (seal_iff hT.2.2 hb (by rw [hl, hN])).2 heq
  have HSE := Lib.hid hse
  have HTL := Lib.hid (show (bs.take n).length = n by rw [List.length_take, hl, hN]; omega)
  obtain ⟨i0, hi, hz0, hz1, hz2⟩ := info_parts info5
  have hs := hT.1
  have HT := Lib.hid hT
  have HN := Lib.hid hN
  have HL := Lib.hid hl
  have HB := Lib.hid hb
  have HR1 := Lib.hid (hr.grow hb1)
  have HB1 := Lib.hid hb1
  have hNb : N ≤ 100004 := by omega
  obtain ⟨s2, hs2⟩ : ∃ s, strOfNums bs = s := ⟨_, rfl⟩
  have HS1 := Lib.hid (show strOfNums (sealN T (bs.take n)) = s2 by rw [hse]; exact hs2)
  have HS2 := Lib.hid hs2
  clear hr hT hN hl hb heq hse hb1 hs2
  go_enter Try.func14, Try.ntmps14
  go_wp2
  generalize w.alloc (.cells cs 24) = w1 at *
  refine wp_region_R Grow (n := 13) rfl (by kernel_rfl) ?_
  intro W0 hW0e hW0
  have htb : ∀ wg, Grow W0 wg → wg.heap[w.heap.size]? = some (.cells cs 24 (0, 0)) := fun wg hg => ((hW0.trans hg).block w.heap.size hlt1).trans hg1
  have HR0 := Lib.hid (HR1.out.grow hW0)
  have hcb : ∀ wg, Grow W0 wg → (convert 28 9 (.slice (some ⟨b, off, none⟩) N cap)).run Try.prog wg = .ok (.string s2) wg := fun wg hg => by rw [← HS2.out]; exact conv_n cap (HR0.out.grow hg) HL.out
  clear hW0e
  refine wpR_take growOrd (i := 0) (v := ?vf17) rfl (by kernel_rfl) (by kernel_rfl) (by kernel_rfl) (fun _ _ _ h => h) (by rfl) ?hf17 ?rf17
  case hf17 => (intro wg hSw; go_simp <;> with_reducible rfl)
  simp only [Act.put, List.setIfInBounds_toArray, List.set_cons_zero, List.set_cons_succ]
  refine wpR_take growOrd (i := 1) (v := ?vf18) rfl (by kernel_rfl) (by kernel_rfl) (by kernel_rfl) (fun _ _ _ h => h) (by rfl) ?hf18 ?rf18
  case hf18 => (intro wg hSw; go_simp <;> with_reducible rfl)
  simp only [Act.put, List.setIfInBounds_toArray, List.set_cons_zero, List.set_cons_succ]
  refine wpR_take growOrd (i := 2) (v := ?vf19) rfl (by kernel_rfl) (by kernel_rfl) (by kernel_rfl) (fun _ _ _ h => h) (by rfl) ?hf19 ?rf19
  case hf19 => (intro wg hSw; go_simp <;> with_reducible rfl)
  simp only [Act.put, List.setIfInBounds_toArray, List.set_cons_zero, List.set_cons_succ]
  refine wpR_take growOrd (i := 3) (v := Value.agg cs) rfl (by kernel_rfl) (by kernel_rfl) (by kernel_rfl) (fun _ _ _ h => h) (by rfl) ?hf20 ?rf20
  case hf20 => exact fun wg hSw => exec_tab rfl rfl (htb wg (Grow.trans (Grow.refl W0) hSw)) hs
  simp only [Act.put, List.setIfInBounds_toArray, List.set_cons_zero, List.set_cons_succ]
  refine wpR_take growOrd (i := 4) (v := ?vf21) rfl (by kernel_rfl) (by kernel_rfl) (by kernel_rfl) (fun _ _ _ h => h) (by rfl) ?hf21 ?rf21
  case hf21 => (intro wg hSw; go_simp <;> with_reducible rfl)
  simp only [Act.put, List.setIfInBounds_toArray, List.set_cons_zero, List.set_cons_succ]
  refine wpR_take growOrd (i := 5) (v := ?vf22) rfl (by kernel_rfl) (by kernel_rfl) (by kernel_rfl) (fun _ _ _ h => h) (by rfl) ?hf22 ?rf22
  case hf22 => (intro wg hSw; go_simp <;> with_reducible rfl)
  simp only [Act.put, List.setIfInBounds_toArray, List.set_cons_zero, List.set_cons_succ]
  refine wpR_take growOrd (i := 6) (v := ?vf23) rfl (by kernel_rfl) (by kernel_rfl) (by kernel_rfl) (fun _ _ _ h => h) (by rfl) ?hf23 ?rf23
  case hf23 => (intro wg hSw; go_simp <;> with_reducible rfl)
  simp only [Act.put, List.setIfInBounds_toArray, List.set_cons_zero, List.set_cons_succ]
  refine wpR_take growOrd (i := 9) (v := ?vf24) rfl (by kernel_rfl) (by kernel_rfl) (by kernel_rfl) (fun _ _ _ h => h) (by rfl) ?hf24 ?rf24
  case hf24 => (intro wg hSw; go_simp <;> with_reducible rfl)
  simp only [Act.put, List.setIfInBounds_toArray, List.set_cons_zero, List.set_cons_succ]
  refine wpR_take growOrd (i := 10) (v := ?vf25) rfl (by kernel_rfl) (by kernel_rfl) (by kernel_rfl) (fun _ _ _ h => h) (by rfl) ?hf25 ?rf25
  case hf25 => (intro wg hSw; go_simp <;> with_reducible rfl)
  simp only [Act.put, List.setIfInBounds_toArray, List.set_cons_zero, List.set_cons_succ]
  refine wpR_one (i := 7) (by kernel_rfl) ?_
  refine wpR_op (i := 7) rfl (by rfl) (fun K hK => ?_)
  go_simp
  refine (rseal_n (some ⟨b, off, none⟩) cap n N cs T (bs.take n) W0 HT.out (by rw [List.length_take, HL.out, HN.out]; omega) HN.out hm (by simp) (HB.out.take n) (HR0.out.take n)).mono ?_
  rintro e wM7 ⟨A', c', rfl, hnum7, hM7⟩
  have HN7 := Lib.hid hnum7
  have hc7 : ∀ wg, Grow wM7 wg → (convert 28 9 (.slice A' N c')).run Try.prog wg = .ok (.string s2) wg := fun wg hg => by
    rw [← HS1.out]
    exact conv_n c' (HN7.out.grow hg) (by rw [sealN_len, List.length_take, HL.out, HN.out]; omega)
  clear hnum7 hcb
  refine hK.out _ _ hM7 ?_
  clear hK K
  try simp only [Act.put, List.setIfInBounds_toArray, List.set_cons_zero, List.set_cons_succ]
  refine wpR_take growOrd (i := 8) (v := ?vf26) rfl (by kernel_rfl) (by kernel_rfl) (by kernel_rfl) (fun _ _ _ h => h) (by rfl) ?hf26 ?rf26
  case hf26 => (intro wg hSw; go_simp <;> with_reducible rfl)
  simp only [Act.put, List.setIfInBounds_toArray, List.set_cons_zero, List.set_cons_succ]
  refine wpR_take growOrd (i := 11) (v := ?vf27) rfl (by kernel_rfl) (by kernel_rfl) (by kernel_rfl) (fun _ _ _ h => h) (by rfl) ?hf27 ?rf27
  case hf27 => (intro wg hSw; go_simp <;> with_reducible rfl)
  simp only [Act.put, List.setIfInBounds_toArray, List.set_cons_zero, List.set_cons_succ]
  refine wpR_take growOrd (i := 12) (v := ?vf28) rfl (by kernel_rfl) (by kernel_rfl) (by kernel_rfl) (fun _ _ _ h => h) (by rfl) ?hf28 ?rf28
  case hf28 => (intro wg hSw; go_simp <;> with_reducible rfl)
  simp only [Act.put, List.setIfInBounds_toArray, List.set_cons_zero, List.set_cons_succ]
  refine wpR_done (by kernel_rfl) ?_
  have hall : Grow w1 wM7 := hW0.trans (Grow.trans (Grow.refl W0) hM7)
  have HE := Lib.hid (own_empty wM7)
  have HNW := Lib.hid (nums_news (((HR0.out.grow (Grow.trans (Grow.refl W0) hM7)).take n).below (grow_new wM7 (.cells #[] 5))))
  clear htb hc7
  go_wp2_with (at_builtin; refine wpList_append_own _ rfl _ _ 28 rfl (wM7).heap.size 5 i0 (.int .u8 0) 1 1 Try.underlying28 hi hz0 hz1 hz2 rfl (by decide) _ _ _ rfl HE.out ⟨b, off, none⟩ n cap (u8s (bs.take n)) rfl (by rw [u8s_len, HTL.out]; omega) HNW.out (u8s_one _) (by unfold maxLen; omega) (by omega) (by simp) ?_; intro v' w5 hown5 hgrow5 _)
  have hb5 : Grow wM7 w5 := Below.grown (grow_new _ _) hgrow5 (by simp) (fun g hg => (HE.out.lt g hg).1)
  rw [Nat.zero_add] at hown5
  obtain ⟨A5, c5, rfl, _, hN5, _⟩ := own_nums hown5
  have HN5 := Lib.hid hN5
  clear hown5 hgrow5 hN5
  go_wp2
  go_ret2
  exact ⟨A5, c5, by rw [HTL.out]; rfl, HN5.out, (HB1.out.trans hall).trans hb5⟩
end Go.Proofs.Ytbpdjohbbhblcaa
