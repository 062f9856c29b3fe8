/-
  ArraySame comes to true, whatever it is called with.
-/
import Derived.Test.YtfdlngcaopcaoaaHeld
import Derived.Test.YtfdlngcaopcaoaaSmall
import Derived.Test.YtfdlngcaopcaoaaFew
import Derived.Deep.CutBlock
import Derived.Deep.DeepCutAuto
namespace Go.Proofs.Ytfdlngcaopcaoaa
open Go.RowKit Go.Lib
set_option linter.unusedSimpArgs false
set_option linter.unusedVariables false

def N5 (A A' : Option Addr) (gx gy gz : Nat) (xs ys x1 y1 z1 : List Nd) (w : World) : Prop :=
  Nodes w w.heap.size A xs ∧ Nodes w w.heap.size A' ys ∧ Nodes w w.heap.size (some ⟨gx, 0, none⟩) x1 ∧ Nodes w w.heap.size (some ⟨gy, 0, none⟩) y1 ∧ Nodes w w.heap.size (some ⟨gz, 0, none⟩) z1
theorem N5.grow {A A' : Option Addr} {gx gy gz : Nat} {xs ys x1 y1 z1 : List Nd} {w w' : World} (h : N5 A A' gx gy gz xs ys x1 y1 z1 w) (hg : Grow w w') : N5 A A' gx gy gz xs ys x1 y1 z1 w' :=
  ⟨h.1.grow hg, h.2.1.grow hg, h.2.2.1.grow hg, h.2.2.2.1.grow hg, h.2.2.2.2.grow hg⟩
theorem set_ne {xs : List Nd} {k : Nat} {n : Nd} (hk : k < xs.length) (h : xs.getD k nd0 ≠ n) : xs ≠ xs.set k n := fun e => by
  have h2 : xs.getD k nd0 = (xs.set k n).getD k nd0 := congrArg (fun l => l.getD k nd0) e
  rw [getD_set hk, if_pos rfl] at h2
  exact h h2
theorem fits_set {xs : List Nd} {k : Nat} {n : Nd} (h : Fits xs) (hn : Fit n) : Fits (xs.set k n) := fun m hm => by
  rcases List.mem_or_eq_of_mem_set hm with h1 | h1
  · exact h m h1
  · rw [h1]; exact hn
theorem kept_set {w : World} {g j : Nat} {v : Value} : Kept (fun k => k = g) w (w.setCell ⟨g, j, none⟩ v) := (Kept.refl _ _).one v

theorem few_small {ns : List Nd} (hf : fewB ns = true) : ∀ n ∈ ns, n.shp.length + 1 ≤ 1000000 ∧ n.ints.length + 1 ≤ 1000000 := fun n hn => by
  have hl := few_len hf
  simp only [fewB, Bool.and_eq_true, decide_eq_true_eq] at hf
  rw [List.take_of_length_le (by omega)] at hf
  have h1 := List.all_eq_true.1 hf.1 n hn
  simp only [okF, Bool.and_eq_true, decide_eq_true_eq] at h1
  omega

set_option maxRecDepth 10000 in
set_option maxHeartbeats 6400000 in
theorem same_walk (A : Option Addr) (n c : Nat) (xs : List Nd) (A' : Option Addr) (n' c' : Nat) (ys : List Nd) (kI : Int) (w : World) (hx : IsNodes w A n c xs) (hy : IsNodes w A' n' c' ys) :
    Calls Try.prog 7 #[.slice A n c, .slice A' n' c', .int .i64 kI] w (Says true w) := by
  have HX := Lib.hid hx
  have HY := Lib.hid hy
  clear hx hy
  go_enter Try.func7, Try.ntmps7
  go_wp2_with fail
  refine (small_any _).mono ?_
  rintro e w1 ⟨rfl, hg1⟩
  have HG1 := Lib.hid hg1
  clear hg1
  go_wp2_with fail
  refine (few_any A n c xs w _ HX.out HG1.out).mono ?_
  rintro e w2 ⟨rfl, hg2⟩
  have HG2 := Lib.hid (HG1.out.trans hg2)
  clear hg2 HG1
  go_wp2_with fail
  refine (few_any A' n' c' ys w _ HY.out HG2.out).mono ?_
  rintro e w3 ⟨rfl, hg3⟩
  have HG3 := Lib.hid (HG2.out.trans hg3)
  clear hg3 HG2
  cases hfx : fewB xs with
  | false =>
    go_wp2
    go_ret
    exact ⟨rfl, HG3.out⟩
  | true =>
    have HFX := Lib.hid (few_fits HX.out hfx)
    have HSM := Lib.hid (few_small hfx)
    have hnl : n ≤ 100 := by have := few_len hfx; have := HX.out.1; omega
    clear hfx
    cases hfy : fewB ys with
    | false =>
      go_wp2
      go_ret
      exact ⟨rfl, HG3.out⟩
    | true =>
      have HFY := Lib.hid (few_fits HY.out hfy)
      have hnl' : n' ≤ 100 := by have := few_len hfy; have := HY.out.1; omega
      clear hfy
      have HN := Lib.hid HX.out.1
      have HN' := Lib.hid HY.out.1
      have HNA := Lib.hid (HX.out.2.2.2.1.grow HG3.out)
      have HNB := Lib.hid (HY.out.2.2.2.1.grow HG3.out)
      have hnc : n ≤ c := HX.out.2.1
      clear HX HY
      by_cases hk0 : kI < 0
      · go_wp2
        go_ret
        exact ⟨rfl, HG3.out⟩
      by_cases hkn : ((n : Nat) : Int) ≤ kI
      · go_wp2
        go_ret
        exact ⟨rfl, HG3.out⟩
      obtain ⟨k, rfl⟩ : ∃ k : Nat, kI = ((k : Nat) : Int) := ⟨kI.toNat, by omega⟩
      have hkl : k < n := by omega
      have hcut := run_cut_hi A n c k (by omega)
      have HKX : Hid (k < xs.length) := Lib.hid (by rw [HN.out]; exact hkl)
      go_wp2_with fail
      refine (copy_any A n c xs _ HN.out (by omega) HFX.out HNA.out).mono ?_
      rintro e w4 ⟨rfl, hcx, hg4⟩
      obtain ⟨gx, hgx⟩ : ∃ gx, w3.heap.size = gx := ⟨_, rfl⟩
      rw [hgx] at hcx ⊢
      have HGX := Lib.hid hgx
      have HG4 := Lib.hid hg4
      have HCX := Lib.hid hcx
      clear hgx hg4 hcx
      go_wp2_with fail
      refine (copy_any A n c xs _ HN.out (by omega) HFX.out (HNA.out.grow HG4.out)).mono ?_
      rintro e w5 ⟨rfl, hcy, hg5⟩
      obtain ⟨gy, hgy⟩ : ∃ gy, w4.heap.size = gy := ⟨_, rfl⟩
      rw [hgy] at hcy ⊢
      have HGY := Lib.hid hgy
      have HG5 := Lib.hid (HG4.out.trans hg5)
      have HXH5 := Lib.hid (HCX.out.held.keep (T' := fun b => gx < b ∧ b < gy) (fun h => Nat.lt_irrefl _ h.1) (hg5.block _ HCX.out.lt) (fun b hb => ⟨⟨hb.1, by rw [← hgy]; exact hb.2⟩, hg5.block b hb.2⟩))
      have hxy : gx < gy := by rw [← hgy]; exact HCX.out.lt
      have HCY := Lib.hid hcy
      clear hgy hg5 hcy HCX
      go_wp2_with fail
      refine (copy_any A n c xs _ HN.out (by omega) HFX.out (HNA.out.grow HG5.out)).mono ?_
      rintro e w6 ⟨rfl, hcz, hg6⟩
      obtain ⟨gz, hgz⟩ : ∃ gz, w5.heap.size = gz := ⟨_, rfl⟩
      rw [hgz] at hcz ⊢
      have HG6 := Lib.hid (HG5.out.trans hg6)
      have hyz : gy < gz := by rw [← hgz]; exact HCY.out.lt
      have HXH6 := Lib.hid (HXH5.out.keep (T' := fun b => gx < b ∧ b < gy) (fun h => Nat.lt_irrefl _ h.1) (hg6.block _ (by omega)) (fun b hb => ⟨hb, hg6.block b (by omega)⟩))
      have HYH6 := Lib.hid (HCY.out.held.keep (T' := fun b => gy < b ∧ b < gz) (fun h => Nat.lt_irrefl _ h.1) (hg6.block _ HCY.out.lt) (fun b hb => ⟨⟨hb.1, by rw [← hgz]; exact hb.2⟩, hg6.block b hb.2⟩))
      have HCY6 := Lib.hid (HCY.out.grow hg6)
      have HCZ6 := Lib.hid hcz
      have HZZ := Lib.hid (show gz < w6.heap.size from hcz.lt)
      clear hgz hg6 hcz HCY HXH5 HG4 HG5 HGY
      have HFK := Lib.hid (HFX.out.at_ k)
      obtain ⟨fx, hfx⟩ : ∃ f, w6.rowIs gx 32 (xs.length * 4) f := by obtain ⟨_, f, hr, _⟩ := HXH6.out; exact ⟨f, hr⟩
      have cx0 : w6.cell? ⟨gx, k * 4, none⟩ = some (.int .i64 (xs.getD k nd0).kind) := by
        obtain ⟨_, f, hr, hh⟩ := HXH6.out
        obtain ⟨A1, c1, A2, c2, A3, c3, h0, _⟩ := hh k HKX.out
        rw [hr.cell (by have := HKX.out; omega), h0]
      have fx0 := hfx.frozen (k * 4)
      clear hfx
      obtain ⟨nd, hnd⟩ : ∃ nd, xs.getD k nd0 = nd := ⟨_, rfl⟩
      have HND := Lib.hid hnd
      have HNM : Hid (nd ∈ xs) := Lib.hid (by have hkx := HKX.out; rw [← hnd, show xs.getD k nd0 = xs[k] by simp [List.getD, hkx]]; exact List.getElem_mem hkx)
      rw [hnd] at cx0 HFK
      obtain ⟨hq1, hq2⟩ := xor_one nd.kind HFK.out.1
      obtain ⟨q, hq⟩ : ∃ q, bits .xor .i64 nd.kind 1 = q := ⟨_, rfl⟩
      rw [hq] at hq1 hq2
      have HQ1 := Lib.hid hq1
      have HQ2 := Lib.hid hq2
      clear hnd hq1 hq2
      obtain ⟨L1, hL1⟩ : ∃ L1, nd.shp.length = L1 := ⟨_, rfl⟩
      obtain ⟨L2, hL2⟩ : ∃ L2, nd.ints.length = L2 := ⟨_, rfl⟩
      have HL1 := Lib.hid hL1
      have HL2 := Lib.hid hL2
      have hs1 : L1 + 1 ≤ 1000000 := by rw [← hL1]; exact (HSM.out nd HNM.out).1
      have hs2 : L2 + 1 ≤ 1000000 := by rw [← hL2]; exact (HSM.out nd HNM.out).2
      have hl1 : L1 ≤ 1000000 := by rw [← hL1]; exact HFK.out.2.1
      have hl2 : L2 ≤ 1000000 := by rw [← hL2]; exact HFK.out.2.2.1
      clear hL1 hL2
      go_upto_region 12 with fail
      generalize hw7 : World.setCell _ _ _ = w7
      have hX7 : Held (fun b => gx < b ∧ b < gy) w7 gx (xs.set k ⟨q, nd.shp, nd.ints, nd.decs⟩) := by
        rw [← hw7]
        have := HXH6.out.set_kind HKX.out q
        rw [HND.out] at this
        exact this
      have HX7 := Lib.hid hX7
      have hk7 : Kept (fun b => b = gx) w6 w7 := by rw [← hw7]; exact kept_set
      have HCY7 := Lib.hid (HCY6.out.kept hk7 hxy)
      have HCZ7 := Lib.hid (HCZ6.out.kept hk7 (by omega))
      have HYH7 := Lib.hid (HYH6.out.keep (T' := fun b => gy < b ∧ b < gz) (fun h => Nat.lt_irrefl _ h.1) (hk7.block _ HYH6.out.lt (by show ¬ gy = gx; omega)) (fun b hb => ⟨hb, hk7.block b (by have := HZZ.out; omega) (by show ¬ b = gx; omega)⟩))
      have HG7 := Lib.hid (show Grow w3 w7 from Kept.grow HG6.out hk7 (fun i e => by rw [HGX.out]; exact Nat.le_of_eq e.symm))
      have HZ7 := Lib.hid (Nat.lt_of_lt_of_le HZZ.out hk7.size)
      clear hw7 hX7 hk7 HCY6 HCZ6 HYH6 HXH6 HG6 HZZ cx0 fx0 hq fx
      obtain ⟨b1, b2, d0, d1, d2, n1, n2, fz⟩ := HCY7.out.at_ HKX.out
      rw [HND.out, HL1.out] at d1
      rw [HND.out] at n1
      have HN1 := Lib.hid n1
      have fy0 := fz (k * 4 + 1)
      clear d0 d2 n1 n2 fz b2
      have HCELL := Lib.hid (show (w7.alloc (.cells #[.int .i64 0] 3)).cell? ⟨w7.heap.size, 0, none⟩ = some (.int .i64 0) by rw [World.cell?_alloc_new]; rfl)
      have HGA := Lib.hid (grow_new w7 (.cells #[.int .i64 0] 3))
      go_upto_region 13 with (at_builtin; refine wpList_append_one rfl _ _ rfl b1 w7.heap.size L1 nd.shp 0 rfl rfl HL1.out (HN1.out.grow HGA.out) HCELL.out (by omega) ?_; intro A9 c9 w9 HN9 HG9; have fy9 := (HCY7.out.grow (HGA.out.trans HG9.out)).froz (k * 4 + 1); have cy9 := ((HGA.out.trans HG9.out).cell (p := ⟨gy, k * 4 + 1, none⟩) HCY7.out.lt).trans d1)
      generalize hw10 : World.setCell _ _ _ = w10
      have HG79 := Lib.hid (HGA.out.trans HG9.out)
      have hk10 : Kept (fun b => b = gy) w9 w10 := by rw [← hw10]; exact kept_set
      have hw8 : (w7.alloc (.cells #[.int .i64 0] 3)).heap.size = w7.heap.size + 1 := by simp
      have HS8 := Lib.hid hw8
      rw [hw8] at HN9
      have hyy : gy < w7.heap.size := HCY7.out.lt
      have hY10 : Held (fun b => (gy < b ∧ b < gz) ∨ (w7.heap.size + 1 ≤ b ∧ b < w9.heap.size)) w10 gy (xs.set k ⟨nd.kind, nd.shp ++ [0], nd.ints, nd.decs⟩) := by
        have h9 : Held (fun b => (gy < b ∧ b < gz) ∨ (w7.heap.size + 1 ≤ b ∧ b < w9.heap.size)) w9 gy xs := HYH7.out.keep (fun h => by rcases h with h | h <;> omega) (HG79.out.block _ hyy) (fun b hb => ⟨.inl hb, HG79.out.block b (by have := HZ7.out; omega)⟩)
        have := h9.set_shp HKX.out A9 (L1 + 1) c9 (nd.shp ++ [0]) (by rw [List.length_append, HL1.out]; rfl) (HN9.out.keep fun b hb => ⟨.inr hb, rfl⟩)
        rw [HND.out] at this
        rw [← hw10]
        exact this
      have HY10 := Lib.hid hY10
      have HX10 := Lib.hid (HX7.out.keep (T' := fun b => gx < b ∧ b < gy) (w' := w10) (fun h => Nat.lt_irrefl _ h.1) ((hk10.block _ (by have := HG79.out.size; omega) (by show ¬ gx = gy; omega)).trans (HG79.out.block _ (by omega))) (fun b hb => ⟨hb, (hk10.block b (by have := HG79.out.size; omega) (by show ¬ b = gy; omega)).trans (HG79.out.block b (by omega))⟩))
      have HCZ10 := Lib.hid ((HCZ7.out.grow HG79.out).kept hk10 hyz)
      have HG10 := Lib.hid (show Grow w3 w10 from Kept.grow (HG7.out.trans HG79.out) hk10 (fun i e => by have := HGX.out; have : i = gy := e; omega))
      have HZ10 := Lib.hid (show w9.heap.size ≤ w10.heap.size from hk10.size)
      have HZ79 := Lib.hid HG79.out.size
      clear hw10 hk10 hY10 HG79 HN9 HG9 fy9 cy9 HGA HCELL HN1 fy0 d1 hw8 HX7 HCY7 HCZ7 HYH7 HG7
      obtain ⟨b1', b2, d0, d1, d2, n1, n2, fz⟩ := HCZ10.out.at_ HKX.out
      rw [HND.out, HL2.out] at d2
      rw [HND.out] at n2
      have HN2 := Lib.hid n2
      have fy0 := fz (k * 4 + 2)
      clear d0 d1 n1 n2 fz b1'
      have HCELL := Lib.hid (show (w10.alloc (.cells #[.int .i64 0] 3)).cell? ⟨w10.heap.size, 0, none⟩ = some (.int .i64 0) by rw [World.cell?_alloc_new]; rfl)
      have HGA := Lib.hid (grow_new w10 (.cells #[.int .i64 0] 3))
      have HZL := Lib.hid (show gz < w10.heap.size from HCZ10.out.lt)
      go_upto_region 14 with (at_builtin; refine wpList_append_one rfl _ _ rfl b2 w10.heap.size L2 nd.ints 0 rfl rfl HL2.out (HN2.out.grow HGA.out) HCELL.out (by omega) ?_; intro A12 c12 w12 HN12 HG12; have fy9 := (HCZ10.out.grow (HGA.out.trans HG12.out)).froz (k * 4 + 2); have cy9 := ((HGA.out.trans HG12.out).cell (p := ⟨gz, k * 4 + 2, none⟩) HCZ10.out.lt).trans d2)
      generalize hw13 : World.setCell _ _ _ = w13
      have HG79 := Lib.hid (HGA.out.trans HG12.out)
      have hk13 : Kept (fun b => b = gz) w12 w13 := by rw [← hw13]; exact kept_set
      have hw8 : (w10.alloc (.cells #[.int .i64 0] 3)).heap.size = w10.heap.size + 1 := by simp
      rw [hw8] at HN12
      have hzz : gz < w10.heap.size := HZL.out
      have hZ13 : Held (fun b => (gz < b ∧ b < w10.heap.size) ∨ (w10.heap.size + 1 ≤ b ∧ b < w12.heap.size)) w13 gz (xs.set k ⟨nd.kind, nd.shp, nd.ints ++ [0], nd.decs⟩) := by
        have h9 : Held (fun b => (gz < b ∧ b < w10.heap.size) ∨ (w10.heap.size + 1 ≤ b ∧ b < w12.heap.size)) w12 gz xs := HCZ10.out.held.keep (fun h => by rcases h with h | h <;> omega) (HG79.out.block _ hzz) (fun b hb => ⟨.inl hb, HG79.out.block b hb.2⟩)
        have := h9.set_ints HKX.out A12 (L2 + 1) c12 (nd.ints ++ [0]) (by rw [List.length_append, HL2.out]; rfl) (HN12.out.keep fun b hb => ⟨.inr hb, rfl⟩)
        rw [HND.out] at this
        rw [← hw13]
        exact this
      have hX13 : Held (fun b => gx < b ∧ b < gy) w13 gx _ := HX10.out.keep (fun h => Nat.lt_irrefl _ h.1) ((hk13.block _ (by have := HG79.out.size; omega) (by show ¬ gx = gz; omega)).trans (HG79.out.block _ (by omega))) (fun b hb => ⟨hb, (hk13.block b (by have := HG79.out.size; omega) (by show ¬ b = gz; omega)).trans (HG79.out.block b (by omega))⟩)
      have hY13 : Held (fun b => (gy < b ∧ b < gz) ∨ (w7.heap.size + 1 ≤ b ∧ b < w9.heap.size)) w13 gy _ := HY10.out.keep (fun h => by rcases h with h | h <;> omega) ((hk13.block _ (by have := HG79.out.size; omega) (by show ¬ gy = gz; omega)).trans (HG79.out.block _ (by omega))) (fun b hb => ⟨hb, (hk13.block b (by have := HG79.out.size; have := HZ10.out; omega) (by have := HZ7.out; show ¬ b = gz; omega)).trans (HG79.out.block b (by have := HZ10.out; omega))⟩)
      have HG13 := Lib.hid (show Grow w3 w13 from Kept.grow (HG10.out.trans HG79.out) hk13 (fun i e => by have := HGX.out; have : i = gz := e; omega))
      have H5 := Lib.hid (show N5 A A' gx gy gz xs ys _ _ _ w13 from ⟨HNA.out.grow HG13.out, HNB.out.grow HG13.out, hX13.nodes, hY13.nodes, hZ13.nodes⟩)
      clear hw13 hk13 hX13 hY13 hZ13 HG79 HN12 HG12 fy9 cy9 HGA HCELL HN2 fy0 d2 hw8 HX10 HY10 HCZ10 HG10 HZ10 HZ7 HZL HNA HNB HZ79 HS8
      have HF1 := Lib.hid (fits_set (k := k) HFX.out (n := ⟨q, nd.shp, nd.ints, nd.decs⟩) ⟨HQ1.out, HFK.out.2.1, HFK.out.2.2.1, HFK.out.2.2.2.1, HFK.out.2.2.2.2⟩)
      have HF2 := Lib.hid (fits_set (k := k) HFX.out (n := ⟨nd.kind, nd.shp ++ [0], nd.ints, nd.decs⟩) ⟨HFK.out.1, by rw [List.length_append, HL1.out]; exact hs1, HFK.out.2.2.1, HFK.out.2.2.2.1, HFK.out.2.2.2.2⟩)
      have HF3 := Lib.hid (fits_set (k := k) HFX.out (n := ⟨nd.kind, nd.shp, nd.ints ++ [0], nd.decs⟩) ⟨HFK.out.1, HFK.out.2.1, by rw [List.length_append, HL2.out]; exact hs2, HFK.out.2.2.2.1, HFK.out.2.2.2.2⟩)
      have HE1 : Hid (decide (xs = xs.set k ⟨q, nd.shp, nd.ints, nd.decs⟩) = false) := Lib.hid (decide_eq_false (set_ne HKX.out (by rw [HND.out]; intro e; exact HQ2.out (congrArg Nd.kind e).symm)))
      have HE2 : Hid (decide (xs.set k ⟨nd.kind, nd.shp ++ [0], nd.ints, nd.decs⟩ = xs) = false) := Lib.hid (decide_eq_false (Ne.symm (set_ne HKX.out (by rw [HND.out]; intro e; have := congrArg (fun m => m.shp.length) e; simp at this))))
      have HE3 : Hid (decide (xs = xs.set k ⟨nd.kind, nd.shp, nd.ints ++ [0], nd.decs⟩) = false) := Lib.hid (decide_eq_false (set_ne HKX.out (by rw [HND.out]; intro e; have := congrArg (fun m => m.ints.length) e; simp at this)))
      have HE4 : Hid (decide (xs = xs.take k) = false) := Lib.hid (decide_eq_false (fun e => by have := congrArg List.length e; rw [List.length_take] at this; have := HKX.out; omega))
      have HLX1 : Hid ((xs.set k ⟨q, nd.shp, nd.ints, nd.decs⟩).length = n) := Lib.hid (by rw [List.length_set, HN.out])
      have HLX2 : Hid ((xs.set k ⟨nd.kind, nd.shp ++ [0], nd.ints, nd.decs⟩).length = n) := Lib.hid (by rw [List.length_set, HN.out])
      have HLX3 : Hid ((xs.set k ⟨nd.kind, nd.shp, nd.ints ++ [0], nd.decs⟩).length = n) := Lib.hid (by rw [List.length_set, HN.out])
      generalize xs.set k ⟨q, nd.shp, nd.ints, nd.decs⟩ = x1 at *
      generalize xs.set k ⟨nd.kind, nd.shp ++ [0], nd.ints, nd.decs⟩ = y1 at *
      generalize xs.set k ⟨nd.kind, nd.shp, nd.ints ++ [0], nd.decs⟩ = z1 at *
      have HGW := Lib.hid (HG3.out.trans HG13.out)
      clear HFK HND HQ1 HQ2 HL1 HL2 HGX HG13 HG3
      have hn6 : n ≤ 1000000 := by omega
      have hn6' : n' ≤ 1000000 := by omega
      go_wp2_with fail
      refine (same_says (xs := xs) (ys := xs) (β := true) (decide_eq_true rfl) A A n n c c w13 HN.out HN.out hn6 hn6 HFX.out HFX.out H5.out.1 H5.out.1).mono ?_
      rintro e w14 ⟨rfl, hg14⟩
      have HG14 := Lib.hid (HGW.out.trans hg14)
      have H14 := Lib.hid (H5.out.grow hg14)
      clear hg14 HGW H5
      go_wp2_with fail
      refine (copy_any A n c xs _ HN.out hn6 HFX.out H14.out.1).mono ?_
      rintro e w15 ⟨rfl, hcp, hg15⟩
      have HCP := Lib.hid hcp.nodes
      have HG15 := Lib.hid (HG14.out.trans hg15)
      have H15 := Lib.hid (H14.out.grow hg15)
      clear hg15 hcp HG14 H14
      go_wp2_with fail
      refine (same_says (xs := xs) (ys := xs) (β := true) (decide_eq_true rfl) A _ n n c n w15 HN.out HN.out hn6 hn6 HFX.out HFX.out H15.out.1 HCP.out).mono ?_
      rintro e w16 ⟨rfl, hg16⟩
      have HG16 := Lib.hid (HG15.out.trans hg16)
      have H16 := Lib.hid (H15.out.grow hg16)
      clear hg16 HG15 H15 HCP
      obtain ⟨β, hβ⟩ : ∃ β, decide (xs = ys) = β := ⟨_, rfl⟩
      have HB1 := Lib.hid hβ
      have HB2 : Hid (decide (ys = xs) = β) := Lib.hid (by rw [← hβ]; exact decide_eq_decide.2 ⟨Eq.symm, Eq.symm⟩)
      clear hβ
      have hbb : (β == β) = true := by simp
      go_wp2_with fail
      refine (same_says HB1.out A A' n n' c c' w16 HN.out HN'.out hn6 hn6' HFX.out HFY.out H16.out.1 H16.out.2.1).mono ?_
      rintro e w17 ⟨rfl, hg17⟩
      have HG17 := Lib.hid (HG16.out.trans hg17)
      have H17 := Lib.hid (H16.out.grow hg17)
      clear hg17 HG16 H16
      go_wp2_with fail
      refine (same_says HB2.out A' A n' n c' c w17 HN'.out HN.out hn6' hn6 HFY.out HFX.out H17.out.2.1 H17.out.1).mono ?_
      rintro e w18 ⟨rfl, hg18⟩
      have HG18 := Lib.hid (HG17.out.trans hg18)
      have H18 := Lib.hid (H17.out.grow hg18)
      clear hg18 HG17 H17
      go_wp2_with fail
      refine (same_says HE1.out A _ n n c n w18 HN.out HLX1.out hn6 hn6 HFX.out HF1.out H18.out.1 H18.out.2.2.1).mono ?_
      rintro e w19 ⟨rfl, hg19⟩
      have HG19 := Lib.hid (HG18.out.trans hg19)
      have H19 := Lib.hid (H18.out.grow hg19)
      clear hg19 HG18 H18
      go_wp2_with fail
      refine (same_says HE2.out _ A n n n c w19 HLX2.out HN.out hn6 hn6 HF2.out HFX.out H19.out.2.2.2.1 H19.out.1).mono ?_
      rintro e w20 ⟨rfl, hg20⟩
      have HG20 := Lib.hid (HG19.out.trans hg20)
      have H20 := Lib.hid (H19.out.grow hg20)
      clear hg20 HG19 H19
      go_wp2_with fail
      refine (same_says HE3.out A _ n n c n w20 HN.out HLX3.out hn6 hn6 HFX.out HF3.out H20.out.1 H20.out.2.2.2.2).mono ?_
      rintro e w21 ⟨rfl, hg21⟩
      have HG21 := Lib.hid (HG20.out.trans hg21)
      have H21 := Lib.hid (H20.out.grow hg21)
      clear hg21 HG20 H20
      go_wp2_with fail
      refine (same_says HE4.out A A n k c c w21 HN.out (by rw [List.length_take, HN.out]; omega) hn6 (by omega) HFX.out (HFX.out.take k) H21.out.1 (H21.out.1.take k)).mono ?_
      rintro e w22 ⟨rfl, hg22⟩
      have HG22 := Lib.hid (HG21.out.trans hg22)
      clear hg22 HG21 H21
      go_wp2
      go_ret
      exact ⟨rfl, HG22.out⟩
end Go.Proofs.Ytfdlngcaopcaoaa
