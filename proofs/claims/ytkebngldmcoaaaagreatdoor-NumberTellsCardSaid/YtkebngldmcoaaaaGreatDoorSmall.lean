/-
  The small case comes to true.
-/
import Derived.Test.YtkebngldmcoaaaaGreatDoorSmallM
namespace Go.Proofs.YtkebngldmcoaaaaGreatDoor
open Go.RowKit Go.Lib
set_option linter.unusedSimpArgs false
set_option linter.unusedVariables false

theorem k_read {l : List UInt8} {ds : List Dc} {r : List UInt8} {ok : Bool} (h : mkL (readO l) = (ds, r, ok)) (hl : l.length ≤ 100000) (n : Nat) (hn : ds.length = n) (w : World) (hL : Laid w) :
    Calls Tryz.prog 5 #[.string ⟨l.toArray⟩] w fun e w' => ∃ A c, e = .returned (.tuple #[.slice A n c, .string ⟨r.toArray⟩, .bool ok]) ∧ Decs w' w'.heap.size A ds ∧ Grow w w' := by
  subst hn
  refine (read_says h hl w hL).mono ?_
  rintro e w' ⟨A, c, h1, _, h2, h3⟩
  exact ⟨A, c, h1, h2, h3⟩
theorem dec_at {w : World} {B : Nat} {A : Option Addr} {ds : List Dc} (h : Decs w B A ds) (i : Nat) (hi : i < ds.length) : ∃ b off, A = some ⟨b, off, none⟩ ∧ b < B ∧ w.cell? ⟨b, off + i * 2, none⟩ = some (.int .i64 (ds.getD i (0, 0)).1) ∧ w.cell? ⟨b, off + i * 2 + 1, none⟩ = some (.int .i64 (ds.getD i (0, 0)).2) := by
  obtain ⟨b, off, e, hb, hc⟩ := h (by omega)
  exact ⟨b, off, e, hb, (hc i hi).1, (hc i hi).2⟩
theorem decs_one {w : World} {B : Nat} {A : Option Addr} {x : Dc} (h : Decs w B A [x]) : ∃ b off, A = some ⟨b, off, none⟩ ∧ b < B ∧ w.cell? ⟨b, off, none⟩ = some (.int .i64 x.1) ∧ w.cell? ⟨b, off + 1, none⟩ = some (.int .i64 x.2) := by
  obtain ⟨b, off, e, hb, hc⟩ := h (by simp)
  have := hc 0 (by simp)
  exact ⟨b, off, e, hb, by simpa using this.1, by simpa using this.2⟩
theorem decs_three {w : World} {B : Nat} {A : Option Addr} {x y z : Dc} (h : Decs w B A [x, y, z]) : ∃ b off, A = some ⟨b, off, none⟩ ∧ b < B ∧ w.cell? ⟨b, off, none⟩ = some (.int .i64 x.1) ∧ w.cell? ⟨b, off + 1, none⟩ = some (.int .i64 x.2) ∧
    w.cell? ⟨b, off + 2, none⟩ = some (.int .i64 y.1) ∧ w.cell? ⟨b, off + 3, none⟩ = some (.int .i64 y.2) ∧ w.cell? ⟨b, off + 4, none⟩ = some (.int .i64 z.1) ∧ w.cell? ⟨b, off + 5, none⟩ = some (.int .i64 z.2) := by
  obtain ⟨b, off, e, hb, hc⟩ := h (by simp)
  have h0 := hc 0 (by simp)
  have h1 := hc 1 (by simp)
  have h2 := hc 2 (by simp)
  exact ⟨b, off, e, hb, by simpa using h0.1, by simpa using h0.2, by simpa using h1.1, by simpa [Nat.add_assoc] using h1.2, by simpa using h2.1, by simpa [Nat.add_assoc] using h2.2⟩

set_option maxRecDepth 100000 in
set_option maxHeartbeats 6400000 in
theorem small_any (w : World) (hL : Laid w) : Calls Tryz.prog 4 #[] w fun e w' => e = .returned (.bool true) ∧ Grow w w' := by
  have HL := Lib.hid hL
  clear hL
  have HC0 := Lib.hid (k_read read_a (by decide) 3 rfl)
  have HC1 := Lib.hid (k_read read_b (by decide) 1 rfl)
  have HC2 := Lib.hid (k_read read_c (by decide) 0 rfl)
  have HC3 := Lib.hid (k_read read_d (by decide) 0 rfl)
  have HC4 := Lib.hid (k_read read_e (by decide) 0 rfl)
  have HC5 := Lib.hid (k_read read_f (by decide) 0 rfl)
  have HC6 := Lib.hid (k_read read_g (by decide) 1 rfl)
  have HIA := Lib.hid (fun A n c W (h1 : ([-5, 0, 100] : List Int).length = n) h2 h3 => ints_any A n c [-5, 0, 100] W h1 (by rw [← h1]; decide) h2 (by simp only [List.forall_mem_cons]; exact ⟨in_lit rfl, in_lit rfl, in_lit rfl, by simp⟩) h3)
  have HIB := Lib.hid (fun W h3 => ints_any none 0 0 [] W rfl (by decide) Nums.none_ (by simp) h3)
  have HDA := Lib.hid (fun A n c W (h1 : ([(15, -1), (1, 2)] : List Dc).length = n) h2 h3 => decs_any A n c [(15, -1), (1, 2)] W h1 (by rw [← h1]; decide) h2 (by simp only [List.forall_mem_cons]; exact ⟨⟨in_lit rfl, in_lit rfl⟩, ⟨in_lit rfl, in_lit rfl⟩, by simp⟩) h3)
  have HDB := Lib.hid (fun A n c W (h1 : ([(10, 0)] : List Dc).length = n) h2 h3 => decs_any A n c [(10, 0)] W h1 (by rw [← h1]; decide) h2 (by simp only [List.forall_mem_cons]; exact ⟨⟨in_lit rfl, in_lit rfl⟩, by simp⟩) h3)
  rw [ints_a] at HIA
  rw [ints_b] at HIB
  rw [decs_b] at HDA
  rw [decs_c] at HDB
  go_enter Tryz.func4, Tryz.ntmps4
  go_wp2_with fail
  refine (HC0.out _ HL.out).mono ?_
  rintro x w0 ⟨A0, c0, rfl, hd, hg⟩
  have HG0 := Lib.hid (hg)
  have HD0_0 := Lib.hid hd
  clear hd hg HC0
  go_wp2_with fail
  refine (HC1.out _ (HL.out.grow HG0.out)).mono ?_
  rintro x w1 ⟨A1, c1, rfl, hd, hg⟩
  have HG1 := Lib.hid (HG0.out.trans hg)
  have HD0_1 := Lib.hid (HD0_0.out.grow hg)
  have HD1_1 := Lib.hid hd
  clear hd hg HC1 HG0 HD0_0
  go_wp2_with fail
  refine (HC2.out _ (HL.out.grow HG1.out)).mono ?_
  rintro x w2 ⟨A2, c2, rfl, hd, hg⟩
  have HG2 := Lib.hid (HG1.out.trans hg)
  have HD0_2 := Lib.hid (HD0_1.out.grow hg)
  have HD1_2 := Lib.hid (HD1_1.out.grow hg)
  clear hd hg HC2 HG1 HD0_1 HD1_1
  go_wp2_with fail
  refine (HC3.out _ (HL.out.grow HG2.out)).mono ?_
  rintro x w3 ⟨A3, c3, rfl, hd, hg⟩
  have HG3 := Lib.hid (HG2.out.trans hg)
  have HD0_3 := Lib.hid (HD0_2.out.grow hg)
  have HD1_3 := Lib.hid (HD1_2.out.grow hg)
  clear hd hg HC3 HG2 HD0_2 HD1_2
  go_wp2_with fail
  refine (HC4.out _ (HL.out.grow HG3.out)).mono ?_
  rintro x w4 ⟨A4, c4, rfl, hd, hg⟩
  have HG4 := Lib.hid (HG3.out.trans hg)
  have HD0_4 := Lib.hid (HD0_3.out.grow hg)
  have HD1_4 := Lib.hid (HD1_3.out.grow hg)
  clear hd hg HC4 HG3 HD0_3 HD1_3
  go_wp2_with fail
  refine (HC5.out _ (HL.out.grow HG4.out)).mono ?_
  rintro x w5 ⟨A5, c5, rfl, hd, hg⟩
  have HG5 := Lib.hid (HG4.out.trans hg)
  have HD0_5 := Lib.hid (HD0_4.out.grow hg)
  have HD1_5 := Lib.hid (HD1_4.out.grow hg)
  clear hd hg HC5 HG4 HD0_4 HD1_4
  go_wp2_with fail
  refine (HC6.out _ (HL.out.grow HG5.out)).mono ?_
  rintro x w6 ⟨A6, c6, rfl, hd, hg⟩
  have HG6 := Lib.hid (HG5.out.trans hg)
  have HD0_6 := Lib.hid (HD0_5.out.grow hg)
  have HD1_6 := Lib.hid (HD1_5.out.grow hg)
  have HD6_6 := Lib.hid hd
  clear hd hg HC6 HG5 HD0_5 HD1_5
  obtain ⟨ba, oa, rfl, hba, a0, a1, a2, a3, a4, a5⟩ := decs_three HD0_6.out
  obtain ⟨bb, ob, rfl, hbb, b0, b1⟩ := decs_one HD1_6.out
  obtain ⟨bc, oc, rfl, hbc, d0, d1⟩ := decs_one HD6_6.out
  dsimp only at a0 a1 a2 a3 a4 a5 b0 b1 d0 d1
  clear HD0_6 HD1_6 HD6_6 hba hbb hbc
  go_wp2_with fail
  refine (HIA.out _ 3 3 _ rfl (nums_cells (xs := [-5, 0, 100]) (heap_alloc_new w6 _)) ((HL.out.grow HG6.out).grow (grow_new _ _)).pows).mono ?_
  rintro x w7 ⟨rfl, hg⟩
  have HG7 := Lib.hid ((HG6.out.trans (grow_new _ _)).trans hg)
  clear hg HIA HG6 a0 a1 a2 a3 a4 a5 b0 b1 d0 d1
  go_wp2_with fail
  refine (HIB.out _ (HL.out.grow HG7.out).pows).mono ?_
  rintro x w8 ⟨rfl, hg⟩
  have HG8 := Lib.hid (HG7.out.trans hg)
  clear hg HIB HG7
  go_wp2_with fail
  refine (HDA.out _ 2 2 _ rfl (decs_cells (ds := [(15, -1), (1, 2)]) (heap_alloc_new w8 _)) ((HL.out.grow HG8.out).grow (grow_new _ _)).pows).mono ?_
  rintro x w9 ⟨rfl, hg⟩
  have HG9 := Lib.hid ((HG8.out.trans (grow_new _ _)).trans hg)
  clear hg HDA HG8
  go_wp2_with fail
  refine (HDB.out _ 1 1 _ rfl (decs_cells (ds := [(10, 0)]) (heap_alloc_new w9 _)) ((HL.out.grow HG9.out).grow (grow_new _ _)).pows).mono ?_
  rintro x w10 ⟨rfl, hg⟩
  have HG10 := Lib.hid ((HG9.out.trans (grow_new _ _)).trans hg)
  clear hg HDB HG9
  go_wp2
  go_ret
  exact ⟨rfl, HG10.out⟩
end Go.Proofs.YtkebngldmcoaaaaGreatDoor
