/-
  What array.Same comes to, called with any nodes.
-/
import Derived.Test.YtfdlngcaopcaoaaCopies
import Derived.Test.YtfdlngcaopcaoaaItemsOf
import Derived.BigQuiet
namespace Go.Proofs.Ytfdlngcaopcaoaa
open Go.RowKit Go.Lib
set_option linter.unusedSimpArgs false
set_option linter.unusedVariables false

theorem eq_of_take {α : Type} {xs ys : List α} {n : Nat} (hx : xs.length = n) (hy : ys.length = n) (h : xs.take n = ys.take n) : xs = ys := by
  rw [List.take_of_length_le (by omega), List.take_of_length_le (by omega)] at h
  exact h
theorem take_next {α : Type} {d : α} {xs ys : List α} {k : Nat} (hx : k < xs.length) (hy : k < ys.length) (h : xs.take k = ys.take k) (he : xs.getD k d = ys.getD k d) : xs.take (k + 1) = ys.take (k + 1) := by
  rw [List.take_add_one, List.take_add_one, h]
  have e1 : xs.getD k d = xs[k] := by simp [List.getD, hx]
  have e2 : ys.getD k d = ys[k] := by simp [List.getD, hy]
  rw [List.getElem?_eq_getElem hx, List.getElem?_eq_getElem hy, ← e1, ← e2, he]
theorem ne_at {α : Type} {d : α} {xs ys : List α} {k : Nat} (he : xs.getD k d ≠ ys.getD k d) : xs ≠ ys := fun h => he (by rw [h])

set_option maxRecDepth 10000 in
set_option maxHeartbeats 800000 in
theorem eqi_any (A A' : Option Addr) (n n' cap cap' : Nat) (xs ys : List Int) (w : World) (hn : xs.length = n) (hn' : ys.length = n') (hl : n ≤ 1000000) (hl' : n' ≤ 1000000) (hr : Nums .i64 w w.heap.size A xs) (hr' : Nums .i64 w w.heap.size A' ys) :
    Calls Try.prog 38 #[.slice A n cap, .slice A' n' cap'] w (Says (decide (xs = ys)) w) := by
  have HR := Lib.hid hr
  have HR' := Lib.hid hr'
  have HN := Lib.hid hn
  have HN' := Lib.hid hn'
  clear hr hr' hn hn'
  by_cases hnn : n = n'
  · subst hnn
    have hne : (((n : Nat) : Int) != ((n : Nat) : Int)) = false := by simp
    go_enter Try.func38, Try.ntmps38
    go_wp2
    go_loopg [13] n (fun g i wr => ∃ k : Nat, k ≤ n ∧ g = n - k ∧ i = .int .i64 k ∧ Hid (xs.take k = ys.take k) ∧ Hid (Grow w wr))
    case atStart => exact ⟨0, Nat.zero_le _, rfl, rfl, Lib.hid rfl, Lib.hid (Grow.refl _)⟩
    case round =>
      obtain ⟨k, hk, rfl, rfl, HE, HG⟩ := hrel
      by_cases hlt : k < n
      · obtain ⟨b, off, rfl, hb, hc⟩ := HR.out.grow HG.out (by rw [HN.out]; omega)
        obtain ⟨b', off', rfl, hb', hc'⟩ := HR'.out.grow HG.out (by rw [HN'.out]; omega)
        have h1 := hc k (by rw [HN.out]; exact hlt)
        have h2 := hc' k (by rw [HN'.out]; exact hlt)
        have HT := Lib.hid (fun h => take_next (d := 0) (by rw [HN.out]; exact hlt) (by rw [HN'.out]; exact hlt) HE.out h)
        have HF := Lib.hid (fun h => ne_at (d := (0 : Int)) (xs := xs) (ys := ys) (k := k) h)
        clear hc hc'
        generalize xs.getD k 0 = x at h1 HT HF
        generalize ys.getD k 0 = y at h2 HT HF
        by_cases hxy : x = y
        · subst hxy
          have HT' := Lib.hid (HT.out rfl)
          clear HT HF
          have hxx : (x != x) = false := by simp
          go_wp2
          go_quiet (fail)
          go_wp2
          go_roundg (n - (k + 1))
          case rel => exact ⟨k + 1, by omega, rfl, by go_num, HT', Lib.hid (HG.out.drewN _)⟩
          case measure => omega
        · have HF' := Lib.hid (HF.out hxy)
          have hxx : (x != y) = true := by simpa using hxy
          clear HT HF
          go_wp2
          go_quiet (fail)
          go_wp2
          go_ret
          exact ⟨by rw [decide_eq_false HF'.out]; rfl, HG.out.drewN _⟩
      · obtain rfl : n = k := by omega
        have HEQ := Lib.hid (eq_of_take HN.out HN'.out HE.out)
        go_wp2
        go_ret
        exact ⟨by rw [decide_eq_true HEQ.out]; rfl, HG.out⟩
  · have hne : (((n : Nat) : Int) != ((n' : Nat) : Int)) = true := by simp; omega
    have HEQ : Hid (¬ xs = ys) := Lib.hid (fun h => hnn (by rw [← HN.out, ← HN'.out, h]))
    go_enter Try.func38, Try.ntmps38
    go_wp2
    go_ret
    exact ⟨by rw [decide_eq_false HEQ.out]; rfl, Grow.refl _⟩

set_option maxRecDepth 10000 in
set_option maxHeartbeats 800000 in
theorem eqd_any (A A' : Option Addr) (n n' cap cap' : Nat) (xs ys : List (Int × Int)) (w : World) (hn : xs.length = n) (hn' : ys.length = n') (hl : n ≤ 1000000) (hl' : n' ≤ 1000000) (hr : Decs w w.heap.size A xs) (hr' : Decs w w.heap.size A' ys) :
    Calls Try.prog 39 #[.slice A n cap, .slice A' n' cap'] w (Says (decide (xs = ys)) w) := by
  have HR := Lib.hid hr
  have HR' := Lib.hid hr'
  have HN := Lib.hid hn
  have HN' := Lib.hid hn'
  clear hr hr' hn hn'
  by_cases hnn : n = n'
  · subst hnn
    have hne : (((n : Nat) : Int) != ((n : Nat) : Int)) = false := by simp
    go_enter Try.func39, Try.ntmps39
    go_wp2
    go_loopg [13] n (fun g i wr => ∃ k : Nat, k ≤ n ∧ g = n - k ∧ i = .int .i64 k ∧ Hid (xs.take k = ys.take k) ∧ Hid (Grow w wr))
    case atStart => exact ⟨0, Nat.zero_le _, rfl, rfl, Lib.hid rfl, Lib.hid (Grow.refl _)⟩
    case round =>
      obtain ⟨k, hk, rfl, rfl, HE, HG⟩ := hrel
      by_cases hlt : k < n
      · obtain ⟨b, off, rfl, hb, hc⟩ := HR.out.grow HG.out (by rw [HN.out]; omega)
        obtain ⟨b', off', rfl, hb', hc'⟩ := HR'.out.grow HG.out (by rw [HN'.out]; omega)
        obtain ⟨h1, h1'⟩ := hc k (by rw [HN.out]; exact hlt)
        obtain ⟨h2, h2'⟩ := hc' k (by rw [HN'.out]; exact hlt)
        have HT := Lib.hid (fun h => take_next (d := (0, 0)) (by rw [HN.out]; exact hlt) (by rw [HN'.out]; exact hlt) HE.out h)
        have HF := Lib.hid (fun h => ne_at (d := ((0, 0) : Int × Int)) (xs := xs) (ys := ys) (k := k) h)
        clear hc hc'
        generalize xs.getD k (0, 0) = x at h1 h1' HT HF
        generalize ys.getD k (0, 0) = y at h2 h2' HT HF
        obtain ⟨x1, x2⟩ := x
        obtain ⟨y1, y2⟩ := y
        dsimp only at h1 h1' h2 h2'
        by_cases hxy : x1 = y1
        · subst hxy
          by_cases hxy2 : x2 = y2
          · subst hxy2
            have HT' := Lib.hid (HT.out rfl)
            clear HT HF
            have hxx : (x1 != x1) = false := by simp
            have hxx2 : (x2 != x2) = false := by simp
            go_wp2
            go_quiet (fail)
            go_wp2
            go_roundg (n - (k + 1))
            case rel => exact ⟨k + 1, by omega, rfl, by go_num, HT', Lib.hid (HG.out.drewN _)⟩
            case measure => omega
          · have HF' := Lib.hid (HF.out (fun h => hxy2 (Prod.mk.inj h).2))
            have hxx : (x2 == y2) = false := by simpa using hxy2
            clear HT HF
            go_wp2
            go_quiet (fail)
            go_wp2
            go_ret
            exact ⟨by rw [decide_eq_false HF'.out]; rfl, HG.out.drewN _⟩
        · have HF' := Lib.hid (HF.out (fun h => hxy (Prod.mk.inj h).1))
          have hxx : (x1 == y1) = false := by simpa using hxy
          clear HT HF
          go_wp2
          go_quiet (fail)
          go_wp2
          go_ret
          exact ⟨by rw [decide_eq_false HF'.out]; rfl, HG.out.drewN _⟩
      · obtain rfl : n = k := by omega
        have HEQ := Lib.hid (eq_of_take HN.out HN'.out HE.out)
        go_wp2
        go_ret
        exact ⟨by rw [decide_eq_true HEQ.out]; rfl, HG.out⟩
  · have hne : (((n : Nat) : Int) != ((n' : Nat) : Int)) = true := by simp; omega
    have HEQ : Hid (¬ xs = ys) := Lib.hid (fun h => hnn (by rw [← HN.out, ← HN'.out, h]))
    go_enter Try.func39, Try.ntmps39
    go_wp2
    go_ret
    exact ⟨by rw [decide_eq_false HEQ.out]; rfl, Grow.refl _⟩

theorem nd_ne {n m : Nd} (h : n.kind ≠ m.kind ∨ n.shp ≠ m.shp ∨ n.ints ≠ m.ints ∨ n.decs ≠ m.decs) : decide (n = m) = false := by
  refine decide_eq_false fun e => ?_
  subst e
  simp at h
theorem nd_eq {n m : Nd} (h1 : n.kind = m.kind) (h2 : n.shp = m.shp) (h3 : n.ints = m.ints) (h4 : n.decs = m.decs) : decide (n = m) = true := by
  refine decide_eq_true ?_
  cases n; cases m
  simp_all

set_option maxRecDepth 10000 in
set_option maxHeartbeats 1600000 in
theorem same1_any (n m : Nd) (A1 A2 A3 : Option Addr) (c1 c2 c3 : Nat) (B1 B2 B3 : Option Addr) (d1 d2 d3 : Nat) (w : World) (hf : Fit n) (hf' : Fit m) (hn : IsNd w w.heap.size A1 A2 A3 n) (hm : IsNd w w.heap.size B1 B2 B3 m) :
    Calls Try.prog 37 #[.agg #[.int .i64 n.kind, .slice A1 n.shp.length c1, .slice A2 n.ints.length c2, .slice A3 n.decs.length c3], .agg #[.int .i64 m.kind, .slice B1 m.shp.length d1, .slice B2 m.ints.length d2, .slice B3 m.decs.length d3]] w (Says (decide (n = m)) w) := by
  have HN := Lib.hid hn
  have HM := Lib.hid hm
  have HE1 := Lib.hid (fun W g h => eqi_any A1 B1 n.shp.length m.shp.length c1 d1 n.shp m.shp W rfl rfl hf.2.1 hf'.2.1 g h)
  have HE2 := Lib.hid (fun W g h => eqi_any A2 B2 n.ints.length m.ints.length c2 d2 n.ints m.ints W rfl rfl hf.2.2.1 hf'.2.2.1 g h)
  have HE3 := Lib.hid (fun W g h => eqd_any A3 B3 n.decs.length m.decs.length c3 d3 n.decs m.decs W rfl rfl hf.2.2.2.1 hf'.2.2.2.1 g h)
  have HNE := Lib.hid (nd_ne (n := n) (m := m))
  have HEQ := Lib.hid (nd_eq (n := n) (m := m))
  clear hn hm hf hf'
  generalize decide (n = m) = β at *
  obtain ⟨k, sh, xs, ds⟩ := n
  obtain ⟨k', sh', xs', ds'⟩ := m
  dsimp only [IsNd] at *
  let wA := (w.alloc (.cells #[.int .i64 k, .slice A1 sh.length c1, .slice A2 xs.length c2, .slice A3 ds.length c3] 32)).alloc (.cells #[.int .i64 k', .slice B1 sh'.length d1, .slice B2 xs'.length d2, .slice B3 ds'.length d3] 32)
  have HG := Lib.hid (show Grow w wA from grow_new2 _ _ _)
  have HB1 := Lib.hid (show BoxN wA w.heap.size k A1 sh.length c1 A2 xs.length c2 A3 ds.length c3 from (boxN_new w k A1 sh.length c1 A2 xs.length c2 A3 ds.length c3).grow (grow_new _ _))
  have HB2 : Hid (BoxN wA (w.heap.size + 1) k' B1 sh'.length d1 B2 xs'.length d2 B3 ds'.length d3) := Lib.hid (by
    have h := boxN_new (w.alloc (.cells #[.int .i64 k, .slice A1 sh.length c1, .slice A2 xs.length c2, .slice A3 ds.length c3] 32)) k' B1 sh'.length d1 B2 xs'.length d2 B3 ds'.length d3
    have e1 : (w.alloc (.cells #[.int .i64 k, .slice A1 sh.length c1, .slice A2 xs.length c2, .slice A3 ds.length c3] 32)).heap.size = w.heap.size + 1 := by simp
    rw [e1] at h
    exact h)
  by_cases hk : k = k'
  · subst hk
    have hkk : (k == k) = true := by simp
    have HEQ' := Lib.hid (HEQ.out rfl)
    clear HEQ
    go_enter Try.func37, Try.ntmps37
    go_wp2_with fail
    refine (HE1.out wA (HN.out.1.grow HG.out) (HM.out.1.grow HG.out)).mono ?_
    rintro e w1 ⟨rfl, hg1⟩
    have HG1 := Lib.hid (HG.out.trans hg1)
    have x2 := (HB1.out.grow hg1).at2
    have y2 := (HB2.out.grow hg1).at2
    have HX1 := Lib.hid (HB1.out.grow hg1)
    have HY1 := Lib.hid (HB2.out.grow hg1)
    clear hg1 HE1 HB1 HB2
    by_cases hs : sh = sh'
    · rw [decide_eq_true hs]
      go_wp2_with fail
      refine (HE2.out w1 (HN.out.2.1.grow HG1.out) (HM.out.2.1.grow HG1.out)).mono ?_
      rintro e w2 ⟨rfl, hg2⟩
      have HG2 := Lib.hid (HG1.out.trans hg2)
      have x3 := (HX1.out.grow hg2).at3
      have y3 := (HY1.out.grow hg2).at3
      clear hg2 HE2 HX1 HY1 x2 y2
      by_cases hi : xs = xs'
      · rw [decide_eq_true hi]
        go_wp2_with fail
        refine (HE3.out w2 (HN.out.2.2.grow HG2.out) (HM.out.2.2.grow HG2.out)).mono ?_
        rintro e w3 ⟨rfl, hg3⟩
        have HG3 := Lib.hid (HG2.out.trans hg3)
        clear hg3 HE3 x3 y3
        by_cases hd : ds = ds'
        · have HB := Lib.hid (HEQ'.out hs hi hd)
          rw [decide_eq_true hd]
          go_wp2
          go_ret
          exact ⟨by rw [HB.out]; rfl, HG3.out⟩
        · have HB := Lib.hid (HNE.out (.inr (.inr (.inr hd))))
          rw [decide_eq_false hd]
          go_wp2
          go_ret
          exact ⟨by rw [HB.out]; rfl, HG3.out⟩
      · have HB := Lib.hid (HNE.out (.inr (.inr (.inl hi))))
        rw [decide_eq_false hi]
        go_wp2
        go_ret
        exact ⟨by rw [HB.out]; rfl, HG2.out⟩
    · have HB := Lib.hid (HNE.out (.inr (.inl hs)))
      rw [decide_eq_false hs]
      go_wp2
      go_ret
      exact ⟨by rw [HB.out]; rfl, HG1.out⟩
  · have hkk : (k == k') = false := by simpa using hk
    have HB := Lib.hid (HNE.out (.inl hk))
    go_enter Try.func37, Try.ntmps37
    go_wp2
    go_ret
    exact ⟨by rw [HB.out]; rfl, HG.out⟩

set_option maxRecDepth 10000 in
set_option maxHeartbeats 1600000 in
theorem eqf_any (A A' : Option Addr) (n n' cap cap' : Nat) (xs ys : List Nd) (w : World) (hn : xs.length = n) (hn' : ys.length = n') (hl : n ≤ 1000000) (hl' : n' ≤ 1000000) (hf : Fits xs) (hf' : Fits ys) (hr : Nodes w w.heap.size A xs) (hr' : Nodes w w.heap.size A' ys) :
    Calls Try.prog 36 #[.slice A n cap, .slice A' n' cap', .func (.func 37) #[] #[]] w (Says (decide (xs = ys)) w) := by
  have HR := Lib.hid hr
  have HR' := Lib.hid hr'
  have HN := Lib.hid hn
  have HN' := Lib.hid hn'
  have HF := Lib.hid hf
  have HF' := Lib.hid hf'
  clear hr hr' hn hn' hf hf'
  by_cases hnn : n = n'
  · subst hnn
    have hne : (((n : Nat) : Int) != ((n : Nat) : Int)) = false := by simp
    go_enter Try.func36, Try.ntmps36
    go_wp2
    go_loopg [17] n (fun g i wr => ∃ k : Nat, k ≤ n ∧ g = n - k ∧ i = .int .i64 k ∧ Hid (xs.take k = ys.take k) ∧ Hid (Grow w wr))
    case atStart => exact ⟨0, Nat.zero_le _, rfl, rfl, Lib.hid rfl, Lib.hid (Grow.refl _)⟩
    case round =>
      obtain ⟨k, hk, rfl, rfl, HE, HG⟩ := hrel
      by_cases hlt : k < n
      · have hlti : ((k : Nat) : Int) < ((n : Nat) : Int) := by omega
        obtain ⟨b, off, rfl, hb, hc⟩ := HR.out.grow HG.out (by rw [HN.out]; omega)
        obtain ⟨b', off', rfl, hb', hc'⟩ := HR'.out.grow HG.out (by rw [HN'.out]; omega)
        obtain ⟨A1, c1, A2, c2, A3, c3, p0, p1, p2, p3, hnd⟩ := hc k (by rw [HN.out]; exact hlt)
        obtain ⟨B1, d1, B2, d2, B3, d3, q0, q1, q2, q3, hnd'⟩ := hc' k (by rw [HN'.out]; exact hlt)
        have HT := Lib.hid (fun h => take_next (d := nd0) (by rw [HN.out]; exact hlt) (by rw [HN'.out]; exact hlt) HE.out h)
        have HNE := Lib.hid (fun h => ne_at (d := nd0) (xs := xs) (ys := ys) (k := k) h)
        have HFX := Lib.hid (HF.out.at_ k)
        have HFY := Lib.hid (HF'.out.at_ k)
        have HND := Lib.hid hnd
        have HND' := Lib.hid hnd'
        clear hc hc' hnd hnd' hb hb'
        generalize xs.getD k nd0 = x at p0 p1 p2 p3 HT HNE HFX HND
        generalize ys.getD k nd0 = y at q0 q1 q2 q3 HT HNE HFY HND'
        have HC := Lib.hid (fun W g h => same1_any x y A1 A2 A3 c1 c2 c3 B1 B2 B3 d1 d2 d3 W HFX.out HFY.out g h)
        have e0 : ∀ o, (wr.alloc o).cell? ⟨b', off' + k * 4, none⟩ = some (.int .i64 y.kind) := fun o => ((grow_new wr o).cell (block_lt_of_cell q0)).trans q0
        have e1 : ∀ o, (wr.alloc o).cell? ⟨b', off' + k * 4 + 1, none⟩ = some (.slice B1 y.shp.length d1) := fun o => ((grow_new wr o).cell (block_lt_of_cell q1)).trans q1
        have e2 : ∀ o, (wr.alloc o).cell? ⟨b', off' + k * 4 + 2, none⟩ = some (.slice B2 y.ints.length d2) := fun o => ((grow_new wr o).cell (block_lt_of_cell q2)).trans q2
        have e3 : ∀ o, (wr.alloc o).cell? ⟨b', off' + k * 4 + 3, none⟩ = some (.slice B3 y.decs.length d3) := fun o => ((grow_new wr o).cell (block_lt_of_cell q3)).trans q3
        clear q0 q1 q2 q3
        by_cases hxy : x = y
        · have HT' := Lib.hid (HT.out hxy)
          rw [decide_eq_true hxy] at HC
          clear HT HNE hxy
          go_wp2_with (go_at_call 37; refine (HC.out _ (HND.out.grow (grow_new2 _ _ _)) (HND'.out.grow (grow_new2 _ _ _))).mono ?_; rintro e w2 ⟨rfl, hg2⟩)
          go_roundg (n - (k + 1))
          case rel => exact ⟨k + 1, by omega, rfl, by go_num, HT', Lib.hid ((HG.out.trans (grow_new2 _ _ _)).trans hg2)⟩
          case measure => omega
        · have HF' := Lib.hid (HNE.out hxy)
          rw [decide_eq_false hxy] at HC
          clear HT HNE hxy
          go_wp2_with (go_at_call 37; refine (HC.out _ (HND.out.grow (grow_new2 _ _ _)) (HND'.out.grow (grow_new2 _ _ _))).mono ?_; rintro e w2 ⟨rfl, hg2⟩)
          go_ret
          exact ⟨by rw [decide_eq_false HF'.out]; rfl, (HG.out.trans (grow_new2 _ _ _)).trans hg2⟩
      · obtain rfl : n = k := by omega
        have HEQ := Lib.hid (eq_of_take HN.out HN'.out HE.out)
        go_wp2
        go_ret
        exact ⟨by rw [decide_eq_true HEQ.out]; rfl, HG.out⟩
  · have hne : (((n : Nat) : Int) != ((n' : Nat) : Int)) = true := by simp; omega
    have HEQ : Hid (¬ xs = ys) := Lib.hid (fun h => hnn (by rw [← HN.out, ← HN'.out, h]))
    go_enter Try.func36, Try.ntmps36
    go_wp2
    go_ret
    exact ⟨by rw [decide_eq_false HEQ.out]; rfl, Grow.refl _⟩

theorem same_any (A A' : Option Addr) (n n' cap cap' : Nat) (xs ys : List Nd) (w : World) (hn : xs.length = n) (hn' : ys.length = n') (hl : n ≤ 1000000) (hl' : n' ≤ 1000000) (hf : Fits xs) (hf' : Fits ys) (hr : Nodes w w.heap.size A xs) (hr' : Nodes w w.heap.size A' ys) :
    Calls Try.prog 24 #[.slice A n cap, .slice A' n' cap'] w (Says (decide (xs = ys)) w) := by
  have HC := Lib.hid (eqf_any A A' n n' cap cap' xs ys w hn hn' hl hl' hf hf' hr hr')
  clear hn hn' hl hl' hf hf' hr hr'
  generalize decide (xs = ys) = β at *
  go_enter Try.func24, Try.ntmps24
  go_wp2_with fail
  refine (HC.out).mono ?_
  rintro e w2 ⟨rfl, hg⟩
  go_wp2
  go_ret
  exact ⟨rfl, hg⟩
end Go.Proofs.Ytfdlngcaopcaoaa
