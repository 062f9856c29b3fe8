/-
  The law BitsParts, walked: it answers true, called with any numbers and any number, and turns nothing that was there.
-/
import Derived.Test.YtinkpbablhbccaaApart
namespace Go.Proofs.Ytinkpbablhbccaa
open Go.RowKit
set_option linter.unusedSimpArgs false

theorem cap_of_row {k : IntKind} {w : World} {a : Option Addr} {len cap : Nat} {zs : List Int}
    (h : (a = none ∧ len = 0 ∧ cap = 0 ∧ zs = []) ∨
      ∃ x, a = some x ∧ len ≤ cap ∧ cap ≤ maxLen ∧ zs.length = cap ∧ (∀ i, i < zs.length → w.cell? (x.add i) = some (.int k (zs.getD i 0))) ∧ ∀ n ∈ zs, (Lit.int k n).wf = true) : len ≤ cap := by
  rcases h with ⟨_, rfl, rfl, _⟩ | ⟨x, _, hl, _⟩
  · exact Nat.le_refl _
  · exact hl

theorem Nums.drop_ {k : IntKind} {w : World} {B : Nat} {A : Option Addr} {xs : List Int} (h : Nums k w B A xs) (d : Nat) : Nums k w B (Option.map (fun x => x.add d) A) (xs.drop d) := fun hn => by
  have hl : d < xs.length := by simp at hn; omega
  obtain ⟨b, off, rfl, hb, hc⟩ := h (by omega)
  refine ⟨b, off + d, ?_, hb, fun i hi => ?_⟩
  · simp only [Option.map_some]
    congr 1
    unfold Addr.add
    split <;> simp_all
  · have := hc (d + i) (by simp at hi; omega)
    rw [show off + d + i = off + (d + i) by omega, this]
    simp

theorem pack_str_m (A : Option Addr) (cap n m : Nat) (l : List Int) (w : World) (s : ByteArray) (hn : l.length = n) (hl : n ≤ 100000) (hr : Nums .i64 w w.heap.size A l) (hm : m = bytesN n) (hs : s = strOfNums (pk l l.length (bytesN l.length))) :
    Calls Try.prog 13 #[.slice A n cap] w (PackStr m s w) := by
  subst hn
  exact pack_str A cap l w s _ hl hr hm hs

set_option maxHeartbeats 1000000 in
theorem parts_yes (A : Option Addr) (cap n k : Nat) (l : List Int) (w : World) (hlen : n ≤ 1000) (hn : l.length = n) (hcap : n ≤ cap) (hk : 8 * k ≤ n) (hck : ¬ cap = 8 * k) (hr : Nums .i64 w w.heap.size A l) :
    Calls Try.prog 6 #[.slice A n cap, .int .i64 k] w (Fine w) := by
  have hd : decide ((1000 : Int) < (n : Int)) = false := by simp; omega
  have hd2 : decide ((k : Int) < 0) = false := by simp
  have hd3 : decide ((n : Int) / 8 < (k : Int)) = false := by simp; omega
  have HL := Lib.hid hn
  have HR := Lib.hid hr
  clear hn hr
  obtain ⟨s1, hs1⟩ : ∃ s, s = strOfNums (pk (l.take (8 * k)) (8 * k) k) := ⟨_, rfl⟩
  obtain ⟨s2, hs2⟩ : ∃ s, s = strOfNums (pk (l.drop (8 * k)) (l.drop (8 * k)).length (bytesN (l.drop (8 * k)).length)) := ⟨_, rfl⟩
  obtain ⟨s3, hs3⟩ : ∃ s, s = strOfNums (pk l l.length (bytesN l.length)) := ⟨_, rfl⟩
  have hsum : ¬ 9223372036854775807 < s1.size + s2.size := by
    rw [hs1, hs2, strOfNums_size, strOfNums_size, pk_len, pk_len, List.length_drop, HL.out]; unfold bytesN; omega
  have hE : (s3.toList == (s1 ++ s2).toList) = true := by
    rw [hs1, hs2, hs3]
    have := pk_parts l k (by rw [HL.out]; exact hk)
    rw [this, beq_iff_eq, ByteArray.toList_eq, ByteArray.toList_eq, ByteArray.data_append]
    simp [strOfNums]
  have hbn : bytesI (n : Int) = (k : Int) + (bytesN (n - 8 * k) : Int) := by rw [bytesI_nat]; unfold bytesN; omega
  have HBN := Lib.hid hbn
  have HS1 := Lib.hid hs1
  have HS2 := Lib.hid hs2
  have HS3 := Lib.hid hs3
  have hmb : bytesN (n - 8 * k) ≤ 1000 := by unfold bytesN; omega
  have hw1 : IntKind.i64.wrap ((k : Int) + (bytesN (n - 8 * k) : Int)) = (k : Int) + (bytesN (n - 8 * k) : Int) := IntWalk.i64_in _ (by omega)
  clear hs1 hs2 hs3 hbn
  go_enter Try.func6, Try.ntmps6
  go_wp2_with fail
  refine (small_any w).mono ?_
  rintro e w1 ⟨rfl, hb1⟩
  have HN := Lib.hid ((HR.out.below hb1).more hb1.size)
  go_wp2_with fail
  refine (pack_str_m A cap (8 * k) k (l.take (8 * k)) w1 s1 (by rw [List.length_take, HL.out]; omega) (by omega) (HN.out.take (8 * k)) (by unfold bytesN; omega) ?_).mono ?_
  · rw [HS1.out, List.length_take, HL.out, show min (8 * k) n = 8 * k by omega, show bytesN (8 * k) = k by unfold bytesN; omega]
  rintro e w2 ⟨g2, rfl, hc2, hb2⟩
  have HN2 := Lib.hid (((HN.out.below hb2).more hb2.size).drop_ (8 * k))
  go_wp2_with fail
  refine (pack_str_m _ _ (n - 8 * k) (bytesN (n - 8 * k)) (l.drop (8 * k)) w2 s2 (by rw [List.length_drop, HL.out]) (by omega) (by exact HN2.out) rfl HS2.out).mono ?_
  rintro e w3 ⟨g3, rfl, hc3, hb3⟩
  have HN3 := Lib.hid ((HN.out.below (Grow.trans hb2 hb3)).more (Grow.trans hb2 hb3).size)
  have hc2' := fun wg (hg : Grow w3.drew wg) => hc2 wg (hb3.trans (Grow.of_drew hg))
  have hc3' := fun wg (hg : Grow w3.drew wg) => hc3 wg (Grow.of_drew hg)
  go_wp2
  refine wp_region_grow (n := 30) rfl (by kernel_rfl) ?_
  refine wpAnyG_take (i := 0) (v := ?v1) rfl (by kernel_rfl) (by kernel_rfl) (by kernel_rfl) (fun _ _ _ h => h) (by rfl) ?h1 ?r1
  case h1 => (intro wg hSw; go_simp <;> with_reducible rfl)
  simp only [Act.put, List.setIfInBounds_toArray, List.set_cons_zero, List.set_cons_succ]
  refine wpAnyG_take (i := 1) (v := ?v2) rfl (by kernel_rfl) (by kernel_rfl) (by kernel_rfl) (fun _ _ _ h => h) (by rfl) ?h2 ?r2
  case h2 => (intro wg hSw; go_simp <;> with_reducible rfl)
  simp only [Act.put, List.setIfInBounds_toArray, List.set_cons_zero, List.set_cons_succ]
  refine wpAnyG_take (i := 2) (v := ?v3) rfl (by kernel_rfl) (by kernel_rfl) (by kernel_rfl) (fun _ _ _ h => h) (by rfl) ?h3 ?r3
  case h3 => (intro wg hSw; go_simp <;> with_reducible rfl)
  simp only [Act.put, List.setIfInBounds_toArray, List.set_cons_zero, List.set_cons_succ]
  refine wpAnyG_take (i := 5) (v := ?v4) rfl (by kernel_rfl) (by kernel_rfl) (by kernel_rfl) (fun _ _ _ h => h) (by rfl) ?h4 ?r4
  case h4 => (intro wg hSw; go_simp <;> with_reducible rfl)
  simp only [Act.put, List.setIfInBounds_toArray, List.set_cons_zero, List.set_cons_succ]
  refine wpAnyG_take (i := 6) (v := ?v5) rfl (by kernel_rfl) (by kernel_rfl) (by kernel_rfl) (fun _ _ _ h => h) (by rfl) ?h5 ?r5
  case h5 => (intro wg hSw; go_simp <;> with_reducible rfl)
  simp only [Act.put, List.setIfInBounds_toArray, List.set_cons_zero, List.set_cons_succ]
  refine wpAnyG_take (i := 7) (v := ?v6) rfl (by kernel_rfl) (by kernel_rfl) (by kernel_rfl) (fun _ _ _ h => h) (by rfl) ?h6 ?r6
  case h6 => (intro wg hSw; go_simp <;> with_reducible rfl)
  simp only [Act.put, List.setIfInBounds_toArray, List.set_cons_zero, List.set_cons_succ]
  refine wpAnyG_take (i := 8) (v := ?v7) rfl (by kernel_rfl) (by kernel_rfl) (by kernel_rfl) (fun _ _ _ h => h) (by rfl) ?h7 ?r7
  case h7 => (intro wg hSw; go_simp <;> with_reducible rfl)
  simp only [Act.put, List.setIfInBounds_toArray, List.set_cons_zero, List.set_cons_succ]
  refine wpAnyG_take (i := 9) (v := ?v8) rfl (by kernel_rfl) (by kernel_rfl) (by kernel_rfl) (fun _ _ _ h => h) (by rfl) ?h8 ?r8
  case h8 => (intro wg hSw; go_simp <;> with_reducible rfl)
  simp only [Act.put, List.setIfInBounds_toArray, List.set_cons_zero, List.set_cons_succ]
  refine wpAnyG_one (i := 3) rfl (by kernel_rfl) (by rfl) (fun K hK => ?_)
  go_simp
  refine (pack_str_m A _ n (bytesN n) l _ s3 HL.out (by omega) ?_ rfl HS3.out).mono ?_
  · exact HN3.out
  rintro e w4 ⟨g4, rfl, hc4, hb4⟩
  refine hK.out _ _ (hb4) ?_
  clear hK K
  try simp only [Act.put, List.setIfInBounds_toArray, List.set_cons_zero, List.set_cons_succ]
  refine wpAnyG_take (i := 4) (v := ?v9) rfl (by kernel_rfl) (by kernel_rfl) (by kernel_rfl) (fun _ _ _ h => h) (by rfl) ?h9 ?r9
  case h9 => (intro wg hSw; go_simp <;> with_reducible rfl)
  simp only [Act.put, List.setIfInBounds_toArray, List.set_cons_zero, List.set_cons_succ]
  refine wpAnyG_take (i := 10) (v := ?v10) rfl (by kernel_rfl) (by kernel_rfl) (by kernel_rfl) (fun _ _ _ h => h) (by rfl) ?h10 ?r10
  case h10 => (intro wg hSw; go_simp <;> with_reducible rfl)
  simp only [Act.put, List.setIfInBounds_toArray, List.set_cons_zero, List.set_cons_succ]
  refine wpAnyG_take (i := 11) (v := ?v11) rfl (by kernel_rfl) (by kernel_rfl) (by kernel_rfl) (fun _ _ _ h => h) (by rfl) ?h11 ?r11
  case h11 => (intro wg hSw; go_simp <;> with_reducible rfl)
  simp only [Act.put, List.setIfInBounds_toArray, List.set_cons_zero, List.set_cons_succ]
  refine wpAnyG_take (i := 12) (v := ?v12) rfl (by kernel_rfl) (by kernel_rfl) (by kernel_rfl) (fun _ _ _ h => h) (by rfl) ?h12 ?r12
  case h12 => (intro wg hSw; go_simp <;> with_reducible rfl)
  simp only [Act.put, List.setIfInBounds_toArray, List.set_cons_zero, List.set_cons_succ]
  refine wpAnyG_take (i := 13) (v := ?v13) rfl (by kernel_rfl) (by kernel_rfl) (by kernel_rfl) (fun _ _ _ h => h) (by rfl) ?h13 ?r13
  case h13 => (intro wg hSw; go_simp <;> with_reducible rfl)
  simp only [Act.put, List.setIfInBounds_toArray, List.set_cons_zero, List.set_cons_succ]
  refine wpAnyG_take (i := 14) (v := ?v14) rfl (by kernel_rfl) (by kernel_rfl) (by kernel_rfl) (fun _ _ _ h => h) (by rfl) ?h14 ?r14
  case h14 => (intro wg hSw; go_simp <;> with_reducible rfl)
  simp only [Act.put, List.setIfInBounds_toArray, List.set_cons_zero, List.set_cons_succ]
  refine wpAnyG_take (i := 15) (v := ?v15) rfl (by kernel_rfl) (by kernel_rfl) (by kernel_rfl) (fun _ _ _ h => h) (by rfl) ?h15 ?r15
  case h15 => (intro wg hSw; go_simp <;> with_reducible rfl)
  simp only [Act.put, List.setIfInBounds_toArray, List.set_cons_zero, List.set_cons_succ]
  refine wpAnyG_take (i := 16) (v := ?v16) rfl (by kernel_rfl) (by kernel_rfl) (by kernel_rfl) (fun _ _ _ h => h) (by rfl) ?h16 ?r16
  case h16 => (intro wg hSw; go_simp <;> with_reducible rfl)
  simp only [Act.put, List.setIfInBounds_toArray, List.set_cons_zero, List.set_cons_succ]
  refine wpAnyG_take (i := 17) (v := ?v17) rfl (by kernel_rfl) (by kernel_rfl) (by kernel_rfl) (fun _ _ _ h => h) (by rfl) ?h17 ?r17
  case h17 => (intro wg hSw; go_simp <;> with_reducible rfl)
  simp only [Act.put, List.setIfInBounds_toArray, List.set_cons_zero, List.set_cons_succ]
  refine wpAnyG_take (i := 18) (v := ?v18) rfl (by kernel_rfl) (by kernel_rfl) (by kernel_rfl) (fun _ _ _ h => h) (by rfl) ?h18 ?r18
  case h18 => (intro wg hSw; go_simp <;> with_reducible rfl)
  simp only [Act.put, List.setIfInBounds_toArray, List.set_cons_zero, List.set_cons_succ]
  refine wpAnyG_take (i := 19) (v := ?v19) rfl (by kernel_rfl) (by kernel_rfl) (by kernel_rfl) (fun _ _ _ h => h) (by rfl) ?h19 ?r19
  case h19 => (intro wg hSw; go_simp <;> with_reducible rfl)
  simp only [Act.put, List.setIfInBounds_toArray, List.set_cons_zero, List.set_cons_succ]
  refine wpAnyG_take (i := 20) (v := ?v20) rfl (by kernel_rfl) (by kernel_rfl) (by kernel_rfl) (fun _ _ _ h => h) (by rfl) ?h20 ?r20
  case h20 => (intro wg hSw; go_simp <;> with_reducible rfl)
  simp only [Act.put, List.setIfInBounds_toArray, List.set_cons_zero, List.set_cons_succ]
  refine wpAnyG_take (i := 22) (v := ?v21) rfl (by kernel_rfl) (by kernel_rfl) (by kernel_rfl) (fun _ _ _ h => h) (by rfl) ?h21 ?r21
  case h21 => (intro wg hSw; go_simp <;> with_reducible rfl)
  simp only [Act.put, List.setIfInBounds_toArray, List.set_cons_zero, List.set_cons_succ]
  refine wpAnyG_take (i := 23) (v := ?v22) rfl (by kernel_rfl) (by kernel_rfl) (by kernel_rfl) (fun _ _ _ h => h) (by rfl) ?h22 ?r22
  case h22 => (intro wg hSw; go_simp <;> with_reducible rfl)
  simp only [Act.put, List.setIfInBounds_toArray, List.set_cons_zero, List.set_cons_succ]
  refine wpAnyG_take (i := 24) (v := ?v23) rfl (by kernel_rfl) (by kernel_rfl) (by kernel_rfl) (fun _ _ _ h => h) (by rfl) ?h23 ?r23
  case h23 => (intro wg hSw; go_simp <;> with_reducible rfl)
  simp only [Act.put, List.setIfInBounds_toArray, List.set_cons_zero, List.set_cons_succ]
  refine wpAnyG_take (i := 25) (v := ?v24) rfl (by kernel_rfl) (by kernel_rfl) (by kernel_rfl) (fun _ _ _ h => h) (by rfl) ?h24 ?r24
  case h24 => (intro wg hSw; go_simp <;> with_reducible rfl)
  simp only [Act.put, List.setIfInBounds_toArray, List.set_cons_zero, List.set_cons_succ]
  refine wpAnyG_take (i := 26) (v := ?v25) rfl (by kernel_rfl) (by kernel_rfl) (by kernel_rfl) (fun _ _ _ h => h) (by rfl) ?h25 ?r25
  case h25 => (intro wg hSw; go_simp <;> with_reducible rfl)
  simp only [Act.put, List.setIfInBounds_toArray, List.set_cons_zero, List.set_cons_succ]
  refine wpAnyG_one (i := 21) rfl (by kernel_rfl) (by rfl) (fun K hK => ?_)
  go_simp
  refine (bytes_any _ _ (by omega) (by omega)).mono ?_
  rintro e w5 ⟨rfl, rfl⟩
  rw [HBN.out]
  refine hK.out _ _ (Grow.refl _) ?_
  clear hK K
  try simp only [Act.put, List.setIfInBounds_toArray, List.set_cons_zero, List.set_cons_succ]
  refine wpAnyG_take (i := 27) (v := ?v26) rfl (by kernel_rfl) (by kernel_rfl) (by kernel_rfl) (fun _ _ _ h => h) (by rfl) ?h26 ?r26
  case h26 => (intro wg hSw; go_simp <;> with_reducible rfl)
  simp only [Act.put, List.setIfInBounds_toArray, List.set_cons_zero, List.set_cons_succ]
  refine wpAnyG_take (i := 28) (v := ?v27) rfl (by kernel_rfl) (by kernel_rfl) (by kernel_rfl) (fun _ _ _ h => h) (by rfl) ?h27 ?r27
  case h27 => (intro wg hSw; go_simp <;> with_reducible rfl)
  simp only [Act.put, List.setIfInBounds_toArray, List.set_cons_zero, List.set_cons_succ]
  refine wpAnyG_take (i := 29) (v := ?v28) rfl (by kernel_rfl) (by kernel_rfl) (by kernel_rfl) (fun _ _ _ h => h) (by rfl) ?h28 ?r28
  case h28 => (intro wg hSw; go_simp <;> with_reducible rfl)
  simp only [Act.put, List.setIfInBounds_toArray, List.set_cons_zero, List.set_cons_succ]
  refine wpAnyG_done (by kernel_rfl) ?_
  go_wp2
  go_ret
  exact ⟨rfl, Grow.trans (Grow.trans (Grow.trans hb1 hb2) hb3) (Grow.of_drew hb4)⟩
set_option maxHeartbeats 1000000 in
theorem parts_eq (A : Option Addr) (cap n k : Nat) (l : List Int) (w : World) (hlen : n ≤ 1000) (hn : l.length = n) (hcap : n ≤ cap) (hk : 8 * k ≤ n) (hck : cap = 8 * k) (hr : Nums .i64 w w.heap.size A l) :
    Calls Try.prog 6 #[.slice A n cap, .int .i64 k] w (Fine w) := by
  subst hck
  have hd : decide ((1000 : Int) < (n : Int)) = false := by simp; omega
  have hd2 : decide ((k : Int) < 0) = false := by simp
  have hd3 : decide ((n : Int) / 8 < (k : Int)) = false := by simp; omega
  have HL := Lib.hid hn
  have HR := Lib.hid hr
  clear hn hr
  obtain ⟨s1, hs1⟩ : ∃ s, s = strOfNums (pk (l.take (8 * k)) (8 * k) k) := ⟨_, rfl⟩
  obtain ⟨s2, hs2⟩ : ∃ s, s = strOfNums (pk (l.drop (8 * k)) (l.drop (8 * k)).length (bytesN (l.drop (8 * k)).length)) := ⟨_, rfl⟩
  obtain ⟨s3, hs3⟩ : ∃ s, s = strOfNums (pk l l.length (bytesN l.length)) := ⟨_, rfl⟩
  have hsum : ¬ 9223372036854775807 < s1.size + s2.size := by
    rw [hs1, hs2, strOfNums_size, strOfNums_size, pk_len, pk_len, List.length_drop, HL.out]; unfold bytesN; omega
  have hE : (s3.toList == (s1 ++ s2).toList) = true := by
    rw [hs1, hs2, hs3]
    have := pk_parts l k (by rw [HL.out]; exact hk)
    rw [this, beq_iff_eq, ByteArray.toList_eq, ByteArray.toList_eq, ByteArray.data_append]
    simp [strOfNums]
  have hbn : bytesI (n : Int) = (k : Int) := by rw [bytesI_nat]; unfold bytesN; omega
  have HBN := Lib.hid hbn
  have HS1 := Lib.hid hs1
  have HS2 := Lib.hid hs2
  have HS3 := Lib.hid hs3
  have hw1 : IntKind.i64.wrap (k : Int) = (k : Int) := IntWalk.i64_in _ (by omega)
  have hdr : l.drop (8 * k) = [] := List.eq_nil_of_length_eq_zero (by rw [List.length_drop, HL.out]; omega)
  have HD := Lib.hid hdr
  clear hdr
  clear hs1 hs2 hs3 hbn
  go_enter Try.func6, Try.ntmps6
  go_wp2_with fail
  refine (small_any w).mono ?_
  rintro e w1 ⟨rfl, hb1⟩
  have HN := Lib.hid ((HR.out.below hb1).more hb1.size)
  go_wp2_with fail
  refine (pack_str_m A _ (8 * k) k (l.take (8 * k)) w1 s1 (by rw [List.length_take, HL.out]; omega) (by omega) (HN.out.take (8 * k)) (by unfold bytesN; omega) ?_).mono ?_
  · rw [HS1.out, List.length_take, HL.out, show min (8 * k) n = 8 * k by omega, show bytesN (8 * k) = k by unfold bytesN; omega]
  rintro e w2 ⟨g2, rfl, hc2, hb2⟩
  go_wp2_with fail
  refine (pack_str_m A 0 0 0 [] w2 s2 rfl (by omega) (Nums.none_) (by decide) (by rw [HS2.out, HD.out])).mono ?_
  rintro e w3 ⟨g3, rfl, hc3, hb3⟩
  have HN3 := Lib.hid ((HN.out.below (Grow.trans hb2 hb3)).more (Grow.trans hb2 hb3).size)
  have hc2' := fun wg (hg : Grow w3.drew wg) => hc2 wg (hb3.trans (Grow.of_drew hg))
  have hc3' := fun wg (hg : Grow w3.drew wg) => hc3 wg (Grow.of_drew hg)
  go_wp2
  refine wp_region_grow (n := 30) rfl (by kernel_rfl) ?_
  refine wpAnyG_take (i := 0) (v := ?v29) rfl (by kernel_rfl) (by kernel_rfl) (by kernel_rfl) (fun _ _ _ h => h) (by rfl) ?h29 ?r29
  case h29 => (intro wg hSw; go_simp <;> with_reducible rfl)
  simp only [Act.put, List.setIfInBounds_toArray, List.set_cons_zero, List.set_cons_succ]
  refine wpAnyG_take (i := 1) (v := ?v30) rfl (by kernel_rfl) (by kernel_rfl) (by kernel_rfl) (fun _ _ _ h => h) (by rfl) ?h30 ?r30
  case h30 => (intro wg hSw; go_simp <;> with_reducible rfl)
  simp only [Act.put, List.setIfInBounds_toArray, List.set_cons_zero, List.set_cons_succ]
  refine wpAnyG_take (i := 2) (v := ?v31) rfl (by kernel_rfl) (by kernel_rfl) (by kernel_rfl) (fun _ _ _ h => h) (by rfl) ?h31 ?r31
  case h31 => (intro wg hSw; go_simp <;> with_reducible rfl)
  simp only [Act.put, List.setIfInBounds_toArray, List.set_cons_zero, List.set_cons_succ]
  refine wpAnyG_take (i := 5) (v := ?v32) rfl (by kernel_rfl) (by kernel_rfl) (by kernel_rfl) (fun _ _ _ h => h) (by rfl) ?h32 ?r32
  case h32 => (intro wg hSw; go_simp <;> with_reducible rfl)
  simp only [Act.put, List.setIfInBounds_toArray, List.set_cons_zero, List.set_cons_succ]
  refine wpAnyG_take (i := 6) (v := ?v33) rfl (by kernel_rfl) (by kernel_rfl) (by kernel_rfl) (fun _ _ _ h => h) (by rfl) ?h33 ?r33
  case h33 => (intro wg hSw; go_simp <;> with_reducible rfl)
  simp only [Act.put, List.setIfInBounds_toArray, List.set_cons_zero, List.set_cons_succ]
  refine wpAnyG_take (i := 7) (v := ?v34) rfl (by kernel_rfl) (by kernel_rfl) (by kernel_rfl) (fun _ _ _ h => h) (by rfl) ?h34 ?r34
  case h34 => (intro wg hSw; go_simp <;> with_reducible rfl)
  simp only [Act.put, List.setIfInBounds_toArray, List.set_cons_zero, List.set_cons_succ]
  refine wpAnyG_take (i := 8) (v := ?v35) rfl (by kernel_rfl) (by kernel_rfl) (by kernel_rfl) (fun _ _ _ h => h) (by rfl) ?h35 ?r35
  case h35 => (intro wg hSw; go_simp <;> with_reducible rfl)
  simp only [Act.put, List.setIfInBounds_toArray, List.set_cons_zero, List.set_cons_succ]
  refine wpAnyG_take (i := 9) (v := ?v36) rfl (by kernel_rfl) (by kernel_rfl) (by kernel_rfl) (fun _ _ _ h => h) (by rfl) ?h36 ?r36
  case h36 => (intro wg hSw; go_simp <;> with_reducible rfl)
  simp only [Act.put, List.setIfInBounds_toArray, List.set_cons_zero, List.set_cons_succ]
  refine wpAnyG_one (i := 3) rfl (by kernel_rfl) (by rfl) (fun K hK => ?_)
  go_simp
  refine (pack_str_m A _ n (bytesN n) l _ s3 HL.out (by omega) ?_ rfl HS3.out).mono ?_
  · exact HN3.out
  rintro e w4 ⟨g4, rfl, hc4, hb4⟩
  refine hK.out _ _ (hb4) ?_
  clear hK K
  try simp only [Act.put, List.setIfInBounds_toArray, List.set_cons_zero, List.set_cons_succ]
  refine wpAnyG_take (i := 4) (v := ?v37) rfl (by kernel_rfl) (by kernel_rfl) (by kernel_rfl) (fun _ _ _ h => h) (by rfl) ?h37 ?r37
  case h37 => (intro wg hSw; go_simp <;> with_reducible rfl)
  simp only [Act.put, List.setIfInBounds_toArray, List.set_cons_zero, List.set_cons_succ]
  refine wpAnyG_take (i := 10) (v := ?v38) rfl (by kernel_rfl) (by kernel_rfl) (by kernel_rfl) (fun _ _ _ h => h) (by rfl) ?h38 ?r38
  case h38 => (intro wg hSw; go_simp <;> with_reducible rfl)
  simp only [Act.put, List.setIfInBounds_toArray, List.set_cons_zero, List.set_cons_succ]
  refine wpAnyG_take (i := 11) (v := ?v39) rfl (by kernel_rfl) (by kernel_rfl) (by kernel_rfl) (fun _ _ _ h => h) (by rfl) ?h39 ?r39
  case h39 => (intro wg hSw; go_simp <;> with_reducible rfl)
  simp only [Act.put, List.setIfInBounds_toArray, List.set_cons_zero, List.set_cons_succ]
  refine wpAnyG_take (i := 12) (v := ?v40) rfl (by kernel_rfl) (by kernel_rfl) (by kernel_rfl) (fun _ _ _ h => h) (by rfl) ?h40 ?r40
  case h40 => (intro wg hSw; go_simp <;> with_reducible rfl)
  simp only [Act.put, List.setIfInBounds_toArray, List.set_cons_zero, List.set_cons_succ]
  refine wpAnyG_take (i := 13) (v := ?v41) rfl (by kernel_rfl) (by kernel_rfl) (by kernel_rfl) (fun _ _ _ h => h) (by rfl) ?h41 ?r41
  case h41 => (intro wg hSw; go_simp <;> with_reducible rfl)
  simp only [Act.put, List.setIfInBounds_toArray, List.set_cons_zero, List.set_cons_succ]
  refine wpAnyG_take (i := 14) (v := ?v42) rfl (by kernel_rfl) (by kernel_rfl) (by kernel_rfl) (fun _ _ _ h => h) (by rfl) ?h42 ?r42
  case h42 => (intro wg hSw; go_simp <;> with_reducible rfl)
  simp only [Act.put, List.setIfInBounds_toArray, List.set_cons_zero, List.set_cons_succ]
  refine wpAnyG_take (i := 15) (v := ?v43) rfl (by kernel_rfl) (by kernel_rfl) (by kernel_rfl) (fun _ _ _ h => h) (by rfl) ?h43 ?r43
  case h43 => (intro wg hSw; go_simp <;> with_reducible rfl)
  simp only [Act.put, List.setIfInBounds_toArray, List.set_cons_zero, List.set_cons_succ]
  refine wpAnyG_take (i := 16) (v := ?v44) rfl (by kernel_rfl) (by kernel_rfl) (by kernel_rfl) (fun _ _ _ h => h) (by rfl) ?h44 ?r44
  case h44 => (intro wg hSw; go_simp <;> with_reducible rfl)
  simp only [Act.put, List.setIfInBounds_toArray, List.set_cons_zero, List.set_cons_succ]
  refine wpAnyG_take (i := 17) (v := ?v45) rfl (by kernel_rfl) (by kernel_rfl) (by kernel_rfl) (fun _ _ _ h => h) (by rfl) ?h45 ?r45
  case h45 => (intro wg hSw; go_simp <;> with_reducible rfl)
  simp only [Act.put, List.setIfInBounds_toArray, List.set_cons_zero, List.set_cons_succ]
  refine wpAnyG_take (i := 18) (v := ?v46) rfl (by kernel_rfl) (by kernel_rfl) (by kernel_rfl) (fun _ _ _ h => h) (by rfl) ?h46 ?r46
  case h46 => (intro wg hSw; go_simp <;> with_reducible rfl)
  simp only [Act.put, List.setIfInBounds_toArray, List.set_cons_zero, List.set_cons_succ]
  refine wpAnyG_take (i := 19) (v := ?v47) rfl (by kernel_rfl) (by kernel_rfl) (by kernel_rfl) (fun _ _ _ h => h) (by rfl) ?h47 ?r47
  case h47 => (intro wg hSw; go_simp <;> with_reducible rfl)
  simp only [Act.put, List.setIfInBounds_toArray, List.set_cons_zero, List.set_cons_succ]
  refine wpAnyG_take (i := 20) (v := ?v48) rfl (by kernel_rfl) (by kernel_rfl) (by kernel_rfl) (fun _ _ _ h => h) (by rfl) ?h48 ?r48
  case h48 => (intro wg hSw; go_simp <;> with_reducible rfl)
  simp only [Act.put, List.setIfInBounds_toArray, List.set_cons_zero, List.set_cons_succ]
  refine wpAnyG_take (i := 22) (v := ?v49) rfl (by kernel_rfl) (by kernel_rfl) (by kernel_rfl) (fun _ _ _ h => h) (by rfl) ?h49 ?r49
  case h49 => (intro wg hSw; go_simp <;> with_reducible rfl)
  simp only [Act.put, List.setIfInBounds_toArray, List.set_cons_zero, List.set_cons_succ]
  refine wpAnyG_take (i := 23) (v := ?v50) rfl (by kernel_rfl) (by kernel_rfl) (by kernel_rfl) (fun _ _ _ h => h) (by rfl) ?h50 ?r50
  case h50 => (intro wg hSw; go_simp <;> with_reducible rfl)
  simp only [Act.put, List.setIfInBounds_toArray, List.set_cons_zero, List.set_cons_succ]
  refine wpAnyG_take (i := 24) (v := ?v51) rfl (by kernel_rfl) (by kernel_rfl) (by kernel_rfl) (fun _ _ _ h => h) (by rfl) ?h51 ?r51
  case h51 => (intro wg hSw; go_simp <;> with_reducible rfl)
  simp only [Act.put, List.setIfInBounds_toArray, List.set_cons_zero, List.set_cons_succ]
  refine wpAnyG_take (i := 25) (v := ?v52) rfl (by kernel_rfl) (by kernel_rfl) (by kernel_rfl) (fun _ _ _ h => h) (by rfl) ?h52 ?r52
  case h52 => (intro wg hSw; go_simp <;> with_reducible rfl)
  simp only [Act.put, List.setIfInBounds_toArray, List.set_cons_zero, List.set_cons_succ]
  refine wpAnyG_take (i := 26) (v := ?v53) rfl (by kernel_rfl) (by kernel_rfl) (by kernel_rfl) (fun _ _ _ h => h) (by rfl) ?h53 ?r53
  case h53 => (intro wg hSw; go_simp <;> with_reducible rfl)
  simp only [Act.put, List.setIfInBounds_toArray, List.set_cons_zero, List.set_cons_succ]
  refine wpAnyG_one (i := 21) rfl (by kernel_rfl) (by rfl) (fun K hK => ?_)
  go_simp
  refine (bytes_any _ _ (by omega) (by omega)).mono ?_
  rintro e w5 ⟨rfl, rfl⟩
  rw [HBN.out]
  refine hK.out _ _ (Grow.refl _) ?_
  clear hK K
  try simp only [Act.put, List.setIfInBounds_toArray, List.set_cons_zero, List.set_cons_succ]
  refine wpAnyG_take (i := 27) (v := ?v54) rfl (by kernel_rfl) (by kernel_rfl) (by kernel_rfl) (fun _ _ _ h => h) (by rfl) ?h54 ?r54
  case h54 => (intro wg hSw; go_simp <;> with_reducible rfl)
  simp only [Act.put, List.setIfInBounds_toArray, List.set_cons_zero, List.set_cons_succ]
  refine wpAnyG_take (i := 28) (v := ?v55) rfl (by kernel_rfl) (by kernel_rfl) (by kernel_rfl) (fun _ _ _ h => h) (by rfl) ?h55 ?r55
  case h55 => (intro wg hSw; go_simp <;> with_reducible rfl)
  simp only [Act.put, List.setIfInBounds_toArray, List.set_cons_zero, List.set_cons_succ]
  refine wpAnyG_take (i := 29) (v := ?v56) rfl (by kernel_rfl) (by kernel_rfl) (by kernel_rfl) (fun _ _ _ h => h) (by rfl) ?h56 ?r56
  case h56 => (intro wg hSw; go_simp <;> with_reducible rfl)
  simp only [Act.put, List.setIfInBounds_toArray, List.set_cons_zero, List.set_cons_succ]
  refine wpAnyG_done (by kernel_rfl) ?_
  go_wp2
  go_ret
  exact ⟨rfl, Grow.trans (Grow.trans (Grow.trans hb1 hb2) hb3) (Grow.of_drew hb4)⟩

set_option maxHeartbeats 800000 in
theorem parts_long (A : Option Addr) (cap n : Nat) (k : Int) (w : World) (hm : n ≤ 9223372036854775807) (hlen : ¬ n ≤ 1000) : Calls Try.prog 6 #[.slice A n cap, .int .i64 k] w (Fine w) := by
  have hd : decide ((1000 : Int) < (n : Int)) = true := by simp; omega
  go_enter Try.func6, Try.ntmps6
  go_wp2_with fail
  refine (small_any w).mono ?_
  rintro e w1 ⟨rfl, hb1⟩
  go_wp2
  go_ret
  exact ⟨rfl, hb1⟩

set_option maxHeartbeats 800000 in
theorem parts_neg (A : Option Addr) (cap n : Nat) (k : Int) (w : World) (hlen : n ≤ 1000) (hk : k < 0) : Calls Try.prog 6 #[.slice A n cap, .int .i64 k] w (Fine w) := by
  have hd : decide ((1000 : Int) < (n : Int)) = false := by simp; omega
  have hd2 : decide (k < 0) = true := by simpa using hk
  go_enter Try.func6, Try.ntmps6
  go_wp2_with fail
  refine (small_any w).mono ?_
  rintro e w1 ⟨rfl, hb1⟩
  go_wp2
  go_ret
  exact ⟨rfl, hb1⟩

set_option maxHeartbeats 800000 in
theorem parts_big (A : Option Addr) (cap n : Nat) (k : Int) (w : World) (hlen : n ≤ 1000) (h0 : 0 ≤ k) (hk : (n : Int) / 8 < k) : Calls Try.prog 6 #[.slice A n cap, .int .i64 k] w (Fine w) := by
  have hd : decide ((1000 : Int) < (n : Int)) = false := by simp; omega
  have hd2 : decide (k < 0) = false := by simp; omega
  have hd3 : decide ((n : Int) / 8 < k) = true := by simpa using hk
  go_enter Try.func6, Try.ntmps6
  go_wp2_with fail
  refine (small_any w).mono ?_
  rintro e w1 ⟨rfl, hb1⟩
  go_wp2
  go_ret
  exact ⟨rfl, hb1⟩

theorem parts_walk (A : Option Addr) (cap : Nat) (l : List Int) (k : Int) (w : World) (hcap : l.length ≤ cap) (hm : l.length ≤ 9223372036854775807) (hr : Nums .i64 w w.heap.size A l) :
    Calls Try.prog 6 #[.slice A l.length cap, .int .i64 k] w (Fine w) := by
  by_cases hlen : l.length ≤ 1000
  · by_cases h0 : k < 0
    · exact parts_neg A cap l.length k w hlen h0
    · by_cases h1 : (l.length : Int) / 8 < k
      · exact parts_big A cap l.length k w hlen (by omega) h1
      · obtain ⟨j, rfl⟩ := Int.eq_ofNat_of_zero_le (show 0 ≤ k by omega)
        by_cases hc : cap = 8 * j
        · exact parts_eq A cap l.length j l w hlen rfl hcap (by omega) hc hr
        · exact parts_yes A cap l.length j l w hlen rfl hcap (by omega) hc hr
  · exact parts_long A cap l.length k w hm hlen
end Go.Proofs.Ytinkpbablhbccaa
