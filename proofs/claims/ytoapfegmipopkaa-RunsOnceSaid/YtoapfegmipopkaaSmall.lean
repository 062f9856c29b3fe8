/-
  What the small case of the statements comes to: it answers true and turns nothing that was there.
-/
import Derived.Test.YtoapfegmipopkaaDecode
namespace Go.Proofs.Ytoapfegmipopkaa
open Go.RowKit

theorem grow_alloc' {w w' : World} {o : Obj} (h : Grow (w.alloc o) w') : Grow w w' := (grow_new w o).trans h

/-- bytes, in some memory that was not there -/
def Yes (ys : List Int) (n : Nat) (w : World) (e : Ending) (w' : World) : Prop :=
  ∃ A cap, e = .returned (.tuple #[.slice A n cap, .bool true]) ∧ (A = none → cap = 0) ∧ n ≤ cap ∧ Nums .u8 w' w'.heap.size A ys ∧ Grow w w'
def No (w : World) (e : Ending) (w' : World) : Prop := e = .returned (.tuple #[.slice none 0 0, .bool false]) ∧ Grow w w'
def Bytes (ys : List Int) (n : Nat) (w : World) (e : Ending) (w' : World) : Prop :=
  ∃ A cap, e = .returned (.slice A n cap) ∧ (A = none → cap = 0) ∧ n ≤ cap ∧ Nums .u8 w' w'.heap.size A ys ∧ Grow w w'

theorem Decoded.yes {xs ys : List Int} {n : Int} {w w' : World} {e : Ending} {N : Nat} (h : Decoded xs n w e w') (he : enc ys = xs) (hn : (ys.length : Int) = n) (hN : ys.length = N) : Yes ys N w e w' := by
  obtain ⟨hg, ⟨zs, v, h1, h2, h3, h4, h5⟩ | ⟨h1, _⟩⟩ := h
  · have e1 : zs = ys := enc_inj (h1.trans he.symm)
    subst e1 hN
    obtain ⟨A, cap, rfl, hA, hn, -⟩ := own_nums h5
    exact ⟨A, cap, h4, hA, own_cap h5, hn, hg⟩
  · exact absurd ⟨ys, he, hn⟩ h1
theorem Decoded.no {xs : List Int} {n : Int} {w w' : World} {e : Ending} (h : Decoded xs n w e w') (he : ¬ IsEnc xs n) : No w e w' := by
  obtain ⟨hg, ⟨zs, v, h1, h2, h3, h4, h5⟩ | ⟨_, h2⟩⟩ := h
  · exact absurd ⟨zs, h1, h2⟩ he
  · exact ⟨h2, hg⟩
theorem News.bytes {ys : List Int} {N : Nat} {w w' : World} {e : Ending} (h : News ys w e w') (hN : ys.length = N) : Bytes ys N w e w' := by
  obtain ⟨v, rfl, h5, hg⟩ := h
  subst hN
  obtain ⟨A, cap, rfl, hA, hn, -⟩ := own_nums h5
  exact ⟨A, cap, rfl, hA, own_cap h5, hn, hg⟩

theorem dec_lit (xs : List Int) (n : Int) (w : World) (hl : xs.length ≤ 1000000) (hb : Byt xs) (hn : n ≤ 2147483647) :
    Calls Try.prog 10 #[.slice (some ⟨w.heap.size, 0, none⟩) xs.length xs.length, .int .i64 n] (w.alloc (.cells (xs.map (Value.int .u8)).toArray 5)) (Decoded xs n (w.alloc (.cells (xs.map (Value.int .u8)).toArray 5))) :=
  decode_any _ _ _ xs n _ rfl hl (by simp) hb (lit_nums w .u8 5 xs) (fun h => by omega)
theorem enc_lit (xs : List Int) (fr : Nat × Nat) (w : World) (hl : xs.length ≤ 1000000) (hb : Byt xs) :
    Calls Try.prog 12 #[.slice (some ⟨w.heap.size, 0, none⟩) xs.length xs.length] (w.alloc (.cells (xs.map (Value.int .u8)).toArray 5 fr)) (News (enc xs) (w.alloc (.cells (xs.map (Value.int .u8)).toArray 5 fr))) :=
  encode_any _ _ _ xs _ rfl (by omega) (Nat.le_refl _) (by simp) hb (mark_nums w 5 fr xs)

theorem Yes.of_alloc {ys : List Int} {n : Nat} {w w' : World} {e : Ending} {o : Obj} (h : Yes ys n (w.alloc o) e w') : Yes ys n w e w' := by
  obtain ⟨A, cap, h1, h2, h3, h4, h5⟩ := h
  exact ⟨A, cap, h1, h2, h3, h4, grow_alloc' h5⟩
theorem Bytes.of_alloc {ys : List Int} {n : Nat} {w w' : World} {e : Ending} {o : Obj} (h : Bytes ys n (w.alloc o) e w') : Bytes ys n w e w' := by
  obtain ⟨A, cap, h1, h2, h3, h4, h5⟩ := h
  exact ⟨A, cap, h1, h2, h3, h4, grow_alloc' h5⟩

theorem enc_a : enc [97, 97, 97, 97, 98, 99] = [3, 97, 2, 98, 99] := by
  have h1 := enc_run 97 1 [98, 99] (by decide)
  have h2 := enc_oth [98, 99] [] (by decide) (by decide)
  rw [enc_nil] at h2
  have h3 : enc [98, 99] = [2, 98, 99] := by
    have : digs (2 * (([98, 99] : List Int).length - 1)) = [2] := digs_lo (by decide)
    rw [this] at h2
    exact h2
  have h4 : digs (2 * 1 + 1) = [3] := digs_lo (by decide)
  rw [h4, h3] at h1
  exact h1
theorem enc_b : enc [97, 97, 98, 98, 98] = [2, 97, 97, 1, 98] := by
  have h1 := enc_run 98 0 [] (by decide)
  have h2 := enc_oth [97, 97] [98, 98, 98] (by decide) (by decide)
  have h3 : enc [98, 98, 98] = [1, 98] := by
    have : digs (2 * 0 + 1) = [1] := digs_lo (by decide)
    rw [this, enc_nil] at h1
    exact h1
  have h4 : digs (2 * (([97, 97] : List Int).length - 1)) = [2] := digs_lo (by decide)
  rw [h4, h3] at h2
  exact h2
theorem no_b : ¬ IsEnc [3, 97, 2, 98, 99] 5 := by
  rintro ⟨ys, h1, h2⟩
  have : ys = [97, 97, 97, 97, 98, 99] := enc_inj (h1.trans enc_a.symm)
  subst this
  simp at h2
theorem no_c : ¬ IsEnc [2, 98, 99, 0, 100] 3 := by
  rintro ⟨ys, h1, h2⟩
  have hg : Grps [2, 98, 99, 0, 100] [98, 99, 100] := by
    have g1 := Grps.oth [100] 0 rfl Grps.nil
    have g2 := Grps.oth [98, 99] 1 rfl g1
    have e0 : digs (2 * 0) = [0] := digs_lo (by decide)
    have e1 : digs (2 * 1) = [2] := digs_lo (by decide)
    rw [e0, e1] at g2
    exact g2
  have hy : ys = [98, 99, 100] := by
    have := enc_grps _ ys (Nat.le_refl _)
    rw [h1] at this
    exact grps_one this _ hg
  subst hy
  have h3 := enc_oth [98, 99, 100] [] (by decide) (by decide)
  have h4 : digs (2 * (([98, 99, 100] : List Int).length - 1)) = [4] := digs_lo (by decide)
  rw [h4, enc_nil, List.append_nil, h1] at h3
  revert h3
  decide
theorem no_d : ¬ IsEnc [1] 3 := by
  rintro ⟨ys, h1, h2⟩
  have hg := enc_grps _ ys (Nat.le_refl _)
  have e1 : digs 1 = [1] := digs_lo (by decide)
  rw [h1, show ([1] : List Int) = digs 1 ++ [] by rw [e1]; rfl] at hg
  obtain ⟨c, t, zs, h3, -⟩ := grps_odd hg (by decide)
  cases h3

theorem small_1 (w : World) : Calls Try.prog 10 #[.slice (some ⟨w.heap.size, 0, none⟩) 5 5, .int .i64 6] (w.alloc (.cells #[.int .u8 3, .int .u8 97, .int .u8 2, .int .u8 98, .int .u8 99] 5)) (Yes [97, 97, 97, 97, 98, 99] 6 w) :=
  (dec_lit [3, 97, 2, 98, 99] 6 w (by decide) (by unfold Byt; decide) (by decide)).mono fun _ _ h => (h.yes enc_a rfl rfl).of_alloc
theorem small_2 (w : World) : Calls Try.prog 10 #[.slice (some ⟨w.heap.size, 0, none⟩) 5 5, .int .i64 5] (w.alloc (.cells #[.int .u8 3, .int .u8 97, .int .u8 2, .int .u8 98, .int .u8 99] 5)) (No w) :=
  (dec_lit [3, 97, 2, 98, 99] 5 w (by decide) (by unfold Byt; decide) (by decide)).mono fun _ _ h => ⟨(h.no no_b).1, grow_alloc' (h.no no_b).2⟩
theorem small_3 (w : World) : Calls Try.prog 10 #[.slice (some ⟨w.heap.size, 0, none⟩) 5 5, .int .i64 3] (w.alloc (.cells #[.int .u8 2, .int .u8 98, .int .u8 99, .int .u8 0, .int .u8 100] 5)) (No w) :=
  (dec_lit [2, 98, 99, 0, 100] 3 w (by decide) (by unfold Byt; decide) (by decide)).mono fun _ _ h => ⟨(h.no no_c).1, grow_alloc' (h.no no_c).2⟩
theorem small_4 (w : World) : Calls Try.prog 10 #[.slice (some ⟨w.heap.size, 0, none⟩) 1 1, .int .i64 3] (w.alloc (.cells #[.int .u8 1] 5)) (No w) :=
  (dec_lit [1] 3 w (by decide) (by unfold Byt; decide) (by decide)).mono fun _ _ h => ⟨(h.no no_d).1, grow_alloc' (h.no no_d).2⟩
theorem small_5 (w : World) : Calls Try.prog 10 #[.slice none 0 0, .int .i64 0] w (Yes [] 0 w) :=
  (decode_any none 0 0 [] 0 w rfl (by decide) (fun _ => rfl) byt_nil Nums.none_ (fun h => by omega)).mono fun _ _ h => h.yes enc_nil rfl rfl
theorem small_6 (w : World) (fr : Nat × Nat) : Calls Try.prog 12 #[.slice (some ⟨w.heap.size, 0, none⟩) 6 6] (w.alloc (.cells #[.int .u8 97, .int .u8 97, .int .u8 97, .int .u8 97, .int .u8 98, .int .u8 99] 5 fr)) (Bytes [3, 97, 2, 98, 99] 5 w) :=
  (enc_lit [97, 97, 97, 97, 98, 99] fr w (by decide) (by unfold Byt; decide)).mono fun _ _ h => (by rw [enc_a] at h; exact (h.bytes rfl).of_alloc)
theorem small_7 (w : World) (fr : Nat × Nat) : Calls Try.prog 12 #[.slice (some ⟨w.heap.size, 0, none⟩) 5 5] (w.alloc (.cells #[.int .u8 97, .int .u8 97, .int .u8 98, .int .u8 98, .int .u8 98] 5 fr)) (Bytes [2, 97, 97, 1, 98] 5 w) :=
  (enc_lit [97, 97, 98, 98, 98] fr w (by decide) (by unfold Byt; decide)).mono fun _ _ h => (by rw [enc_b] at h; exact (h.bytes rfl).of_alloc)
theorem small_8 (w : World) : Calls Try.prog 12 #[.slice none 0 0] w (Bytes [] 0 w) :=
  (encode_any none 0 0 [] w rfl (by decide) (Nat.le_refl _) (fun _ => rfl) byt_nil Nums.none_).mono fun _ _ h => (by rw [enc_nil] at h; exact h.bytes rfl)

set_option maxRecDepth 10000 in
set_option maxHeartbeats 1600000 in
theorem small_any (w : World) : Calls Try.prog 9 #[] w (Fine w) := by
  have hcv : ∀ (W : World) (C : Array Value) (n c g : Nat), g = W.heap.size → (convert 22 22 (.slice (some ⟨g, 0, none⟩) n c)).run Try.prog (W.alloc (.cells C 5)) = .ok (.slice (some ⟨g, 0, none⟩) n c) (W.alloc (.cells C 5 (C.size, C.size + 1))) :=
    fun W C n c g hg => by subst hg; exact Lib.run_convert_bytes_const W 22 5 C n c Try.underlying22 Try.underlying5
  go_enter Try.func9, Try.ntmps9
  go_wp2_with fail
  refine (small_1 w).mono ?_
  rintro e w1 ⟨A1, c1, rfl, -, -, hn1, hb1⟩
  have HN1 := Lib.hid hn1
  have HB1 := Lib.hid hb1
  clear hn1 hb1
  go_wp2_with fail
  refine (small_2 w1).mono ?_
  rintro e w2 ⟨rfl, hb2⟩
  have HB2 := Lib.hid hb2
  clear hb2
  go_wp2_with fail
  refine (small_3 w2).mono ?_
  rintro e w3 ⟨rfl, hb3⟩
  have HB3 := Lib.hid hb3
  clear hb3
  go_wp2_with fail
  refine (small_4 w3).mono ?_
  rintro e w4 ⟨rfl, hb4⟩
  have HB4 := Lib.hid hb4
  clear hb4
  go_wp2_with fail
  refine (small_5 w4).mono ?_
  rintro e w5 ⟨A5, c5, rfl, -, -, -, hb5⟩
  have HB5 := Lib.hid hb5
  clear hb5
  go_wp2_with fail
  refine (small_6 w5 _).mono ?_
  rintro e w6 ⟨A6, c6, rfl, -, -, hn6, hb6⟩
  have hs6 : (convert 22 9 (.slice A6 5 c6)).run Try.prog w6 = .ok (.string ⟨#[3, 97, 2, 98, 99]⟩) w6 := conv_any (xs := [3, 97, 2, 98, 99]) c6 hn6 rfl
  have HB6 := Lib.hid hb6
  clear hb6 hn6
  go_wp2_with fail
  refine (small_7 w6 _).mono ?_
  rintro e w7 ⟨A7, c7, rfl, -, -, hn7, hb7⟩
  have hs7 : (convert 22 9 (.slice A7 5 c7)).run Try.prog w7 = .ok (.string ⟨#[2, 97, 97, 1, 98]⟩) w7 := conv_any (xs := [2, 97, 97, 1, 98]) c7 hn7 rfl
  have HB7 := Lib.hid hb7
  clear hb7 hn7 hs6
  go_wp2_with fail
  refine (small_8 w7).mono ?_
  rintro e w8 ⟨A8, c8, rfl, -, -, -, hb8⟩
  have HB8 := Lib.hid (((((((HB1.out.trans HB2.out).trans HB3.out).trans HB4.out).trans HB5.out).trans HB6.out).trans HB7.out).trans hb8)
  have hs1 : (convert 22 9 (.slice A1 6 c1)).run Try.prog w8 = .ok (.string ⟨#[97, 97, 97, 97, 98, 99]⟩) w8 :=
    conv_any (xs := [97, 97, 97, 97, 98, 99]) c1 (HN1.out.grow ((((((HB2.out.trans HB3.out).trans HB4.out).trans HB5.out).trans HB6.out).trans HB7.out).trans hb8)) rfl
  clear hb8 hs7
  go_wp2
  go_ret
  exact ⟨rfl, HB8.out⟩
end Go.Proofs.Ytoapfegmipopkaa
