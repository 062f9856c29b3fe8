/-
  The law BitsTells, walked: it answers true, called with any numbers, any bytes and any number, and turns nothing that was there.
-/
import Derived.Test.YtinkpbablhbccaaRefUp
namespace Go.Proofs.Ytinkpbablhbccaa
open Go.RowKit
set_option linter.unusedSimpArgs false

def Out (xs : List Int) (ok : Bool) (w : World) (e : Ending) (w' : World) : Prop :=
  ∃ A cap, e = .returned (.tuple #[.slice A xs.length cap, .bool ok]) ∧ Nums .i64 w' w'.heap.size A xs ∧ Grow w w'

/-- both Unpacks give the numbers xs, and say ok, from w on -/
def Both (w : World) (A : Option Addr) (len cap : Nat) (n : Int) (xs : List Int) (ok : Bool) : Prop :=
  xs.length ≤ 1000000 ∧ ∀ w', Grow w w' → Calls Try.prog 9 #[.slice A len cap, .int .i64 n] w' (Out xs ok w') ∧ Calls Try.prog 10 #[.slice A len cap, .int .i64 n] w' (Out xs ok w')

theorem out_no {w : World} {e : Ending} {w' : World} (h : RNo w e w') : Out [] false w e w' := ⟨none, 0, h.1, Nums.none_, h.2⟩

theorem both_any (A : Option Addr) (cap : Nat) (bs : List Int) (n : Int) (w : World) (hlen : bs.length ≤ 200) (hn : (Lit.int .i64 n).wf = true) (hwf : ∀ n ∈ bs, (Lit.int .u8 n).wf = true) (hr : Nums .u8 w w.heap.size A bs) :
    ∃ xs ok, Both w A bs.length cap n xs ok := by
  have hb := int_bounds hn
  by_cases h0 : n < 0
  · refine ⟨[], false, by simp, fun w' _ => ⟨(unpack_neg A bs.length cap n w' h0).mono ?_, (runpack_neg A bs.length cap n w' h0).mono fun _ _ h => out_no h⟩⟩
    rintro e w1 ⟨rfl, rfl⟩
    exact out_no ⟨rfl, Grow.refl _⟩
  · by_cases hl : (bs.length : Int) = bytesI n
    · obtain ⟨k, rfl⟩ := Int.eq_ofNat_of_zero_le (show 0 ≤ n by omega)
      rw [bytesI_nat] at hl
      have hl' : bs.length = bytesN k := by omega
      have hk : k ≤ 1600 := by unfold bytesN at hl'; omega
      have hw := byte_bounds hwf
      cases hh : behind bs k
      · refine ⟨up bs k, true, by rw [up_len]; omega, fun w' hg => ⟨(unpack_yes A cap bs k w' (by omega) hl' ((hr.below hg).more hg.size) hh hw).mono ?_, (runpack_any A cap bs k w' (by omega) hl' ((hr.below hg).more hg.size) hw).mono ?_⟩⟩
        · rintro e w1 ⟨rfl, hrow, hb1, _⟩
          refine ⟨some ⟨w'.heap.size, 0, none⟩, k, by rw [up_len], ?_, hb1⟩
          apply Nums.of_row (t := 3)
          rw [up_len]
          exact hrow.congr fun i hi => by rw [up_get _ _ _ hi]
        · rintro e w1 (⟨h1, _⟩ | ⟨_, A', cap', rfl, hn', hg'⟩)
          · rw [hh] at h1; cases h1
          · exact ⟨A', cap', by rw [up_len], hn', hg'⟩
      · refine ⟨[], false, by simp, fun w' hg => ⟨(unpack_behind A cap bs k w' (by omega) hl' ((hr.below hg).more hg.size) hh).mono ?_, (runpack_any A cap bs k w' (by omega) hl' ((hr.below hg).more hg.size) hw).mono ?_⟩⟩
        · rintro e w1 ⟨rfl, rfl⟩
          exact out_no ⟨rfl, Grow.refl _⟩
        · rintro e w1 (⟨_, h1⟩ | ⟨h1, _⟩)
          · exact out_no h1
          · rw [hh] at h1; cases h1
    · refine ⟨[], false, by simp, fun w' _ => ⟨(unpack_len A bs.length cap n w' (by omega) (by omega) hl).mono ?_, (runpack_len A bs.length cap n w' (by omega) (by omega) hl).mono fun _ _ h => out_no h⟩⟩
      rintro e w1 ⟨rfl, rfl⟩
      exact out_no ⟨rfl, Grow.refl _⟩

theorem rpack_str_n (A : Option Addr) (cap n : Nat) (l : List Int) (w : World) (s : ByteArray) (hn : l.length = n) (hl : n ≤ 100000) (hr : Nums .i64 w w.heap.size A l) (hs : s = strOfNums (pk l l.length (bytesN l.length))) :
    Calls Try.prog 14 #[.slice A n cap] w (PackStr (bytesN n) s w) := by
  subst hn
  refine (rpack_any A cap l w hl hr).mono ?_
  rintro e w' ⟨rfl, hrow, hb, _⟩
  refine ⟨_, rfl, fun wg hg => ?_, hb⟩
  have h1 : w'.rowIs w.heap.size 5 (pk l l.length (bytesN l.length)).length fun j => .int .u8 ((pk l l.length (bytesN l.length)).getD j 0) := by
    rw [pk_len]
    exact hrow.congr fun j hj => by rw [pk_get _ _ _ _ hj]
  have c := conv_any (bytesN l.length) ((Nums.of_row h1).below hg) rfl
  rw [pk_len] at c
  rw [hs]
  exact c

set_option maxHeartbeats 1000000 in
theorem tells_yes (A A' : Option Addr) (cap cap' len len' : Nat) (l : List Int) (n : Int) (w : World) (hn : (Lit.int .i64 n).wf = true) (hlen : len ≤ 1000) (hlen' : len' ≤ 200) (hl : l.length = len)
    (hr : Nums .i64 w w.heap.size A l) (xs : List Int) (ok : Bool) (hboth : Both w A' len' cap' n xs ok) :
    Calls Try.prog 3 #[.slice A len cap, .slice A' len' cap', .int .i64 n] w (Fine w) := by
  have hd : decide ((1000 : Int) < (len : Int)) = false := by simp; omega
  have hd2 : decide ((200 : Int) < (len' : Int)) = false := by simp; omega
  obtain ⟨hb0, hb9⟩ := int_bounds hn
  obtain ⟨s, hs⟩ : ∃ s, s = strOfNums (pk l l.length (bytesN l.length)) := ⟨_, rfl⟩
  have HS := Lib.hid hs
  have HL := Lib.hid hl
  have HR := Lib.hid hr
  have HB := Lib.hid hboth
  clear hl hr hboth hn hs
  go_enter Try.func3, Try.ntmps3
  go_wp2_with fail
  refine (small_any w).mono ?_
  rintro e w1 ⟨rfl, hb1⟩
  go_wp2_with fail
  refine ((HB.out.2 w1 hb1).1).mono ?_
  rintro e w2 ⟨A2, c2, rfl, hn2, hb2⟩
  have HN2 := Lib.hid hn2
  clear hn2
  go_wp2_with fail
  refine ((HB.out.2 w2 (Grow.trans hb1 hb2)).2).mono ?_
  rintro e w3 ⟨A3, c3, rfl, hn3, hb3⟩
  have HN3 := Lib.hid hn3
  clear hn3
  have HX2 := Lib.hid ((HN2.out.below hb3).more hb3.size)
  have hg3 : Grow w w3 := Grow.trans (Grow.trans hb1 hb2) hb3
  have HX1 := Lib.hid ((HR.out.below hg3).more hg3.size)
  go_wp2
  refine wp_region_grow (n := 28) rfl (by kernel_rfl) ?_
  refine wpAnyG_take (i := 0) (v := ?v1) rfl (by kernel_rfl) (by kernel_rfl) (by kernel_rfl) (fun _ _ _ h => h) (by rfl) ?h1 ?r1
  case h1 => (intro wg hSw; go_simp <;> with_reducible rfl)
  simp only [Act.put, List.setIfInBounds_toArray, List.set_cons_zero, List.set_cons_succ]
  refine wpAnyG_take (i := 1) (v := ?v2) rfl (by kernel_rfl) (by kernel_rfl) (by kernel_rfl) (fun _ _ _ h => h) (by rfl) ?h2 ?r2
  case h2 => (intro wg hSw; go_simp <;> with_reducible rfl)
  simp only [Act.put, List.setIfInBounds_toArray, List.set_cons_zero, List.set_cons_succ]
  refine wpAnyG_take (i := 2) (v := ?v3) rfl (by kernel_rfl) (by kernel_rfl) (by kernel_rfl) (fun _ _ _ h => h) (by rfl) ?h3 ?r3
  case h3 => (intro wg hSw; go_simp <;> with_reducible rfl)
  simp only [Act.put, List.setIfInBounds_toArray, List.set_cons_zero, List.set_cons_succ]
  refine wpAnyG_take (i := 4) (v := ?v4) rfl (by kernel_rfl) (by kernel_rfl) (by kernel_rfl) (fun _ _ _ h => h) (by rfl) ?h4 ?r4
  case h4 => (intro wg hSw; go_simp <;> with_reducible rfl)
  simp only [Act.put, List.setIfInBounds_toArray, List.set_cons_zero, List.set_cons_succ]
  refine wpAnyG_one (i := 3) rfl (by kernel_rfl) (by rfl) (fun K hK => ?_)
  go_simp
  refine (bytes_any _ _ (by omega) (by omega)).mono ?_
  rintro e w5 ⟨rfl, rfl⟩
  refine hK.out _ _ (Grow.refl _) ?_
  clear hK K
  try simp only [Act.put, List.setIfInBounds_toArray, List.set_cons_zero, List.set_cons_succ]
  refine wpAnyG_one (i := 5) rfl (by kernel_rfl) (by rfl) (fun K hK => ?_)
  go_simp
  refine (rbytes_any _ _ (by omega) (by omega)).mono ?_
  rintro e w5 ⟨rfl, rfl⟩
  refine hK.out _ _ (Grow.refl _) ?_
  clear hK K
  try simp only [Act.put, List.setIfInBounds_toArray, List.set_cons_zero, List.set_cons_succ]
  refine wpAnyG_take (i := 6) (v := ?v5) rfl (by kernel_rfl) (by kernel_rfl) (by kernel_rfl) (fun _ _ _ h => h) (by rfl) ?h5 ?r5
  case h5 => (intro wg hSw; go_simp <;> with_reducible rfl)
  simp only [Act.put, List.setIfInBounds_toArray, List.set_cons_zero, List.set_cons_succ]
  refine wpAnyG_take (i := 7) (v := ?v6) rfl (by kernel_rfl) (by kernel_rfl) (by kernel_rfl) (fun _ _ _ h => h) (by rfl) ?h6 ?r6
  case h6 => (intro wg hSw; go_simp <;> with_reducible rfl)
  simp only [Act.put, List.setIfInBounds_toArray, List.set_cons_zero, List.set_cons_succ]
  refine wpAnyG_take (i := 8) (v := ?v7) rfl (by kernel_rfl) (by kernel_rfl) (by kernel_rfl) (fun _ _ _ h => h) (by rfl) ?h7 ?r7
  case h7 => (intro wg hSw; go_simp <;> with_reducible rfl)
  simp only [Act.put, List.setIfInBounds_toArray, List.set_cons_zero, List.set_cons_succ]
  refine wpAnyG_take (i := 9) (v := ?v8) rfl (by kernel_rfl) (by kernel_rfl) (by kernel_rfl) (fun _ _ _ h => h) (by rfl) ?h8 ?r8
  case h8 => (intro wg hSw; go_simp <;> with_reducible rfl)
  simp only [Act.put, List.setIfInBounds_toArray, List.set_cons_zero, List.set_cons_succ]
  refine wpAnyG_take (i := 12) (v := ?v9) rfl (by kernel_rfl) (by kernel_rfl) (by kernel_rfl) (fun _ _ _ h => h) (by rfl) ?h9 ?r9
  case h9 => (intro wg hSw; go_simp <;> with_reducible rfl)
  simp only [Act.put, List.setIfInBounds_toArray, List.set_cons_zero, List.set_cons_succ]
  refine wpAnyG_one (i := 10) rfl (by kernel_rfl) (by rfl) (fun K hK => ?_)
  go_simp
  refine (pack_str_n A cap len l _ s HL.out (by omega) ?_ HS.out).mono ?_
  · exact HX1.out
  rintro e w4 ⟨g4, rfl, hc4, hb4⟩
  have hg4 : Grow w3 w4 := Grow.of_drew hb4
  refine hK.out _ _ (hb4) ?_
  clear hK K
  try simp only [Act.put, List.setIfInBounds_toArray, List.set_cons_zero, List.set_cons_succ]
  refine wpAnyG_take (i := 11) (v := ?v10) rfl (by kernel_rfl) (by kernel_rfl) (by kernel_rfl) (fun _ _ _ h => h) (by rfl) ?h10 ?r10
  case h10 => (intro wg hSw; go_simp <;> with_reducible rfl)
  simp only [Act.put, List.setIfInBounds_toArray, List.set_cons_zero, List.set_cons_succ]
  refine wpAnyG_one (i := 13) rfl (by kernel_rfl) (by rfl) (fun K hK => ?_)
  go_simp
  refine (rpack_str_n A cap len l _ s HL.out (by omega) ?_ HS.out).mono ?_
  · exact (HX1.out.below hg4).more hg4.size
  rintro e w5 ⟨g5, rfl, hc5, hb5⟩
  have hg5 : Grow w3 w5 := hg4.trans hb5
  refine hK.out _ _ (hb5) ?_
  clear hK K
  try simp only [Act.put, List.setIfInBounds_toArray, List.set_cons_zero, List.set_cons_succ]
  refine wpAnyG_take (i := 14) (v := ?v11) rfl (by kernel_rfl) (by kernel_rfl) (by kernel_rfl) (fun _ _ _ h => h) (by rfl) ?h11 ?r11
  case h11 => (intro wg hSw; go_simp <;> with_reducible rfl)
  simp only [Act.put, List.setIfInBounds_toArray, List.set_cons_zero, List.set_cons_succ]
  refine wpAnyG_take (i := 15) (v := ?v12) rfl (by kernel_rfl) (by kernel_rfl) (by kernel_rfl) (fun _ _ _ h => h) (by rfl) ?h12 ?r12
  case h12 => (intro wg hSw; go_simp <;> with_reducible rfl)
  simp only [Act.put, List.setIfInBounds_toArray, List.set_cons_zero, List.set_cons_succ]
  refine wpAnyG_take (i := 16) (v := ?v13) rfl (by kernel_rfl) (by kernel_rfl) (by kernel_rfl) (fun _ _ _ h => h) (by rfl) ?h13 ?r13
  case h13 => (intro wg hSw; go_simp <;> with_reducible rfl)
  simp only [Act.put, List.setIfInBounds_toArray, List.set_cons_zero, List.set_cons_succ]
  refine wpAnyG_take (i := 17) (v := ?v14) rfl (by kernel_rfl) (by kernel_rfl) (by kernel_rfl) (fun _ _ _ h => h) (by rfl) ?h14 ?r14
  case h14 => (intro wg hSw; go_simp <;> with_reducible rfl)
  simp only [Act.put, List.setIfInBounds_toArray, List.set_cons_zero, List.set_cons_succ]
  refine wpAnyG_take (i := 18) (v := ?v15) rfl (by kernel_rfl) (by kernel_rfl) (by kernel_rfl) (fun _ _ _ h => h) (by rfl) ?h15 ?r15
  case h15 => (intro wg hSw; go_simp <;> with_reducible rfl)
  simp only [Act.put, List.setIfInBounds_toArray, List.set_cons_zero, List.set_cons_succ]
  refine wpAnyG_take (i := 19) (v := ?v16) rfl (by kernel_rfl) (by kernel_rfl) (by kernel_rfl) (fun _ _ _ h => h) (by rfl) ?h16 ?r16
  case h16 => (intro wg hSw; go_simp <;> with_reducible rfl)
  simp only [Act.put, List.setIfInBounds_toArray, List.set_cons_zero, List.set_cons_succ]
  refine wpAnyG_one (i := 20) rfl (by kernel_rfl) (by rfl) (fun K hK => ?_)
  go_simp
  refine (same_eq A2 A3 c2 c3 xs _ w3.heap.size HB.out.1 ?_ ?_).mono ?_
  · exact HX2.out.below hg5
  · exact HN3.out.below hg5
  rintro e w6 ⟨rfl, m, rfl⟩
  refine hK.out _ _ (Grow.drewN (Grow.refl _) m) ?_
  clear hK K
  try simp only [Act.put, List.setIfInBounds_toArray, List.set_cons_zero, List.set_cons_succ]
  refine wpAnyG_take (i := 21) (v := ?v17) rfl (by kernel_rfl) (by kernel_rfl) (by kernel_rfl) (fun _ _ _ h => h) (by rfl) ?h17 ?r17
  case h17 => (intro wg hSw; go_simp <;> with_reducible rfl)
  simp only [Act.put, List.setIfInBounds_toArray, List.set_cons_zero, List.set_cons_succ]
  refine wpAnyG_take (i := 22) (v := ?v18) rfl (by kernel_rfl) (by kernel_rfl) (by kernel_rfl) (fun _ _ _ h => h) (by rfl) ?h18 ?r18
  case h18 => (intro wg hSw; go_simp <;> with_reducible rfl)
  simp only [Act.put, List.setIfInBounds_toArray, List.set_cons_zero, List.set_cons_succ]
  refine wpAnyG_take (i := 23) (v := ?v19) rfl (by kernel_rfl) (by kernel_rfl) (by kernel_rfl) (fun _ _ _ h => h) (by rfl) ?h19 ?r19
  case h19 => (intro wg hSw; go_simp <;> with_reducible rfl)
  simp only [Act.put, List.setIfInBounds_toArray, List.set_cons_zero, List.set_cons_succ]
  refine wpAnyG_take (i := 24) (v := ?v20) rfl (by kernel_rfl) (by kernel_rfl) (by kernel_rfl) (fun _ _ _ h => h) (by rfl) ?h20 ?r20
  case h20 => (intro wg hSw; go_simp <;> with_reducible rfl)
  simp only [Act.put, List.setIfInBounds_toArray, List.set_cons_zero, List.set_cons_succ]
  refine wpAnyG_take (i := 25) (v := ?v21) rfl (by kernel_rfl) (by kernel_rfl) (by kernel_rfl) (fun _ _ _ h => h) (by rfl) ?h21 ?r21
  case h21 => (intro wg hSw; go_simp <;> with_reducible rfl)
  simp only [Act.put, List.setIfInBounds_toArray, List.set_cons_zero, List.set_cons_succ]
  refine wpAnyG_take (i := 26) (v := ?v22) rfl (by kernel_rfl) (by kernel_rfl) (by kernel_rfl) (fun _ _ _ h => h) (by rfl) ?h22 ?r22
  case h22 => (intro wg hSw; go_simp <;> with_reducible rfl)
  simp only [Act.put, List.setIfInBounds_toArray, List.set_cons_zero, List.set_cons_succ]
  refine wpAnyG_take (i := 27) (v := ?v23) rfl (by kernel_rfl) (by kernel_rfl) (by kernel_rfl) (fun _ _ _ h => h) (by rfl) ?h23 ?r23
  case h23 => (intro wg hSw; go_simp <;> with_reducible rfl)
  simp only [Act.put, List.setIfInBounds_toArray, List.set_cons_zero, List.set_cons_succ]
  refine wpAnyG_done (by kernel_rfl) ?_
  go_wp2
  go_ret
  exact ⟨rfl, Grow.drewN (Grow.trans hg3 hg5) m⟩

set_option maxHeartbeats 800000 in
theorem tells_long (A A' : Option Addr) (cap cap' len len' : Nat) (n : Int) (w : World) (hm : len ≤ 9223372036854775807) (hm' : len' ≤ 9223372036854775807) (h : ¬ (len ≤ 1000 ∧ len' ≤ 200)) :
    Calls Try.prog 3 #[.slice A len cap, .slice A' len' cap', .int .i64 n] w (Fine w) := by
  by_cases h1 : len ≤ 1000
  · have hd : decide ((1000 : Int) < (len : Int)) = false := by simp; omega
    have hd2 : decide ((200 : Int) < (len' : Int)) = true := by simp; omega
    clear h
    go_enter Try.func3, Try.ntmps3
    go_wp2_with fail
    refine (small_any w).mono ?_
    rintro e w1 ⟨rfl, hb1⟩
    go_wp2
    go_ret
    exact ⟨rfl, hb1⟩
  · have hd : decide ((1000 : Int) < (len : Int)) = true := by simp; omega
    clear h
    go_enter Try.func3, Try.ntmps3
    go_wp2_with fail
    refine (small_any w).mono ?_
    rintro e w1 ⟨rfl, hb1⟩
    go_wp2
    go_ret
    exact ⟨rfl, hb1⟩

theorem tells_walk (A A' : Option Addr) (cap cap' : Nat) (l bs : List Int) (n : Int) (w : World) (hm : l.length ≤ 9223372036854775807) (hm' : bs.length ≤ 9223372036854775807) (hn : (Lit.int .i64 n).wf = true)
    (hwf : ∀ n ∈ bs, (Lit.int .u8 n).wf = true) (hr : Nums .i64 w w.heap.size A l) (hr' : Nums .u8 w w.heap.size A' bs) :
    Calls Try.prog 3 #[.slice A l.length cap, .slice A' bs.length cap', .int .i64 n] w (Fine w) := by
  by_cases h : l.length ≤ 1000 ∧ bs.length ≤ 200
  · obtain ⟨xs, ok, hb⟩ := both_any A' cap' bs n w h.2 hn hwf hr'
    exact tells_yes A A' cap cap' l.length bs.length l n w hn h.1 h.2 rfl hr xs ok hb
  · exact tells_long A A' cap cap' l.length bs.length n w hm hm' h
end Go.Proofs.Ytinkpbablhbccaa
