/-
  What the small case of the statements comes to: it answers true and turns nothing that was there.
-/
import Derived.Test.YtepemadnakgbpaaPut
namespace Go.Proofs.Ytepemadnakgbpaa
open Go.RowKit

theorem take_lit (xs : List Int) (w : World) (t : Nat × Nat × Nat) (hl : xs.length ≤ 1000000000000000000) (hB : Byt xs) (ht : takeN xs = t) :
    Calls Try.prog 10 #[.slice (some ⟨w.heap.size, 0, none⟩) xs.length xs.length] (w.alloc (.cells (xs.map (Value.int .u8)).toArray 5)) fun e w' => e = .returned (told t) ∧ Grow w w' := by
  refine (take_any _ _ xs _ _ hl hB (lit_nums w .u8 5 xs)).mono ?_
  rintro e w' ⟨rfl, rfl⟩
  exact ⟨by rw [ht], grow_new _ _⟩

def Told (x : Int) (k e0 : Int) (w : World) (e : Ending) (w' : World) : Prop := e = .returned (.tuple #[.int .u64 x, .int .i64 k, .int .i64 e0]) ∧ Grow w w'

theorem small_t1 (w : World) : Calls Try.prog 10 #[.slice (some ⟨w.heap.size, 0, none⟩) 3 3] (w.alloc (.cells #[.int .u8 172, .int .u8 2, .int .u8 9] 5)) (Told 300 2 0 w) :=
  take_lit [172, 2, 9] w (300, 2, 0) (by decide) (by unfold Byt; decide) (by decide)
theorem small_t2 (w : World) : Calls Try.prog 10 #[.slice (some ⟨w.heap.size, 0, none⟩) 2 2] (w.alloc (.cells #[.int .u8 128, .int .u8 0] 5)) (Told 0 0 3 w) :=
  take_lit [128, 0] w (0, 0, 3) (by decide) (by unfold Byt; decide) (by decide)
theorem small_t3 (w : World) : Calls Try.prog 10 #[.slice (some ⟨w.heap.size, 0, none⟩) 1 1] (w.alloc (.cells #[.int .u8 128] 5)) (Told 0 0 2 w) :=
  take_lit [128] w (0, 0, 2) (by decide) (by unfold Byt; decide) (by decide)
theorem small_t4 (w : World) : Calls Try.prog 10 #[.slice (some ⟨w.heap.size, 0, none⟩) 10 10] (w.alloc (.cells #[.int .u8 255, .int .u8 255, .int .u8 255, .int .u8 255, .int .u8 255, .int .u8 255, .int .u8 255, .int .u8 255, .int .u8 255, .int .u8 2] 5)) (Told 0 0 3 w) :=
  take_lit [255, 255, 255, 255, 255, 255, 255, 255, 255, 2] w (0, 0, 3) (by decide) (by unfold Byt; decide) (by decide)
theorem small_t5 (w : World) : Calls Try.prog 10 #[.slice (some ⟨w.heap.size, 0, none⟩) 10 10] (w.alloc (.cells #[.int .u8 255, .int .u8 255, .int .u8 255, .int .u8 255, .int .u8 255, .int .u8 255, .int .u8 255, .int .u8 255, .int .u8 255, .int .u8 1] 5)) (Told 18446744073709551615 10 0 w) :=
  take_lit [255, 255, 255, 255, 255, 255, 255, 255, 255, 1] w (18446744073709551615, 10, 0) (by decide) (by unfold Byt; decide) (by decide)

def L5 : List Int := [120, 0, 127, 128, 1]
theorem flat3 : [120] ++ flat [0, 127, 128] = L5 := by
  rw [flat_cons, flat_cons, flat_one]
  have h1 : digs (Int.toNat 0) = [0] := digs_lo (by decide)
  have h2 : digs (Int.toNat 127) = [127] := digs_lo (by decide)
  have h3 : digs (Int.toNat 128) = [128, 1] := by
    rw [digs_hi (by decide), digs_lo (by decide)]
    rfl
  rw [h1, h2, h3]
  rfl

def Row5 (w : World) (e : Ending) (w' : World) : Prop := ∃ g, e = .returned (.slice (some ⟨g, 0, none⟩) 5 5) ∧ w'.rowIs g 5 5 (fun i => .int .u8 (L5.getD i 0)) ∧ Grow w w'

theorem grow_alloc' {w w' : World} {o : Obj} (h : Grow (w.alloc o) w') : Grow w w' := (grow_new w o).trans h

theorem small_put (w : World) (f1 : Nat × Nat) (b1 : Nat) (h1 : b1 = w.heap.size + 1) :
    Calls Try.prog 12 #[.slice (some ⟨w.heap.size, 0, none⟩) 1 1, .slice (some ⟨b1, 0, none⟩) 3 3] ((w.alloc (.cells #[.int .u8 120] 5 f1)).alloc (.cells #[.int .u64 0, .int .u64 127, .int .u64 128] 25)) (Row5 w) := by
  subst h1
  have n1 := mark_nums w 5 f1 [120]
  have hb := grow_new (w.alloc (.cells ([120].map (Value.int .u8)).toArray 5 f1)) (.cells ([0, 127, 128].map (Value.int .u64)).toArray 25)
  have n2 := lit_nums (w.alloc (.cells ([120].map (Value.int .u8)).toArray 5 f1)) .u64 25 [0, 127, 128]
  have h := put_any (some ⟨w.heap.size, 0, none⟩) _ 1 3 1 3 [120] [0, 127, 128] _ rfl rfl (by decide) (by decide) (by unfold U64; decide) (by simp) (n1.grow hb) n2
  rw [flat3] at h
  have e1 : (w.alloc (.cells ([120].map (Value.int .u8)).toArray 5 f1)).heap.size = w.heap.size + 1 := by simp
  rw [e1] at h
  refine h.mono ?_
  rintro e w' ⟨g, he, hrow, hg⟩
  exact ⟨g, he, hrow, grow_alloc' (grow_alloc' hg)⟩

def Num (k : IntKind) (n : Int) (w : World) (e : Ending) (w' : World) : Prop := e = .returned (.int k n) ∧ w' = w
theorem small_s1 (w : World) : Calls Try.prog 16 #[.int .u64 127] w (Num .i64 1 w) := by
  have h := size_any 127 w (by decide)
  rw [digs_lo (by decide)] at h
  exact h
theorem small_s2 (w : World) : Calls Try.prog 16 #[.int .u64 128] w (Num .i64 2 w) := by
  have h := size_any 128 w (by decide)
  rw [digs_hi (by decide), digs_lo (by decide)] at h
  exact h
theorem small_z1 (w : World) : Calls Try.prog 14 #[.int .i64 (-1)] w (Num .u64 1 w) := zig_any (-1) w (by decide) (by decide)
theorem small_z2 (w : World) : Calls Try.prog 14 #[.int .i64 1] w (Num .u64 2 w) := zig_any 1 w (by decide) (by decide)
theorem small_z3 (w : World) : Calls Try.prog 18 #[.int .u64 3] w (Num .i64 (-2) w) := zag_any 3 w (by decide) (by decide)
theorem small_z4 (w : World) : Calls Try.prog 18 #[.int .u64 18446744073709551615] w (Num .i64 (-9223372036854775808) w) := zag_any 18446744073709551615 w (by decide) (by decide)

set_option maxRecDepth 10000 in
set_option maxHeartbeats 1600000 in
theorem small_any (w : World) : Calls Try.prog 9 #[] w (Fine w) := by
  have hcv : ∀ (W : World) (C : Array Value) (n c g : Nat), g = W.heap.size → (convert 22 22 (.slice (some ⟨g, 0, none⟩) n c)).run Try.prog (W.alloc (.cells C 5)) = .ok (.slice (some ⟨g, 0, none⟩) n c) (W.alloc (.cells C 5 (C.size, C.size + 1))) :=
    fun W C n c g hg => by subst hg; exact Lib.run_convert_bytes_const W 22 5 C n c Try.underlying22 Try.underlying5
  go_enter Try.func9, Try.ntmps9
  go_wp2_with fail
  refine (small_t1 w).mono ?_
  rintro e w1 ⟨rfl, hb1⟩
  go_wp2_with fail
  refine (small_t2 w1).mono ?_
  rintro e w2 ⟨rfl, hb2⟩
  go_wp2_with fail
  refine (small_t3 w2).mono ?_
  rintro e w3 ⟨rfl, hb3⟩
  go_wp2_with fail
  refine (small_t4 w3).mono ?_
  rintro e w4 ⟨rfl, hb4⟩
  go_wp2_with fail
  refine (small_t5 w4).mono ?_
  rintro e w5 ⟨rfl, hb5⟩
  go_wp2_with fail
  refine (small_put w5 (1, 2) _ rfl).mono ?_
  rintro e w6 ⟨g, rfl, hrow, hb6⟩
  have hs5 : (convert 22 9 (.slice (some ⟨g, 0, none⟩) 5 5)).run Try.prog w6 = .ok (.string ⟨#[120, 0, 127, 128, 1]⟩) w6 := conv_any (xs := L5) 5 (Nums.of_row hrow) rfl
  clear hrow
  go_wp2_with fail
  refine (small_s1 w6).mono ?_
  rintro e w' ⟨rfl, rfl⟩
  go_wp2_with fail
  refine (small_s2 _).mono ?_
  rintro e w' ⟨rfl, rfl⟩
  go_wp2_with fail
  refine (small_z1 _).mono ?_
  rintro e w' ⟨rfl, rfl⟩
  go_wp2_with fail
  refine (small_z2 _).mono ?_
  rintro e w' ⟨rfl, rfl⟩
  go_wp2_with fail
  refine (small_z3 _).mono ?_
  rintro e w' ⟨rfl, rfl⟩
  go_wp2_with fail
  refine (small_z4 _).mono ?_
  rintro e w' ⟨rfl, rfl⟩
  go_wp2
  go_ret
  exact ⟨rfl, ((((hb1.trans hb2).trans hb3).trans hb4).trans hb5).trans hb6⟩
end Go.Proofs.Ytepemadnakgbpaa
