/-
  Sames, RSames, one behind the other.
-/
import Derived.Test.YtcljpcbgokgcdaaCopies
import Derived.Test.YtcljpcbgokgcdaaAllsA
import Derived.BigQuiet
import Derived.Test.YtcljpcbgokgcdaaPreA
import Derived.BigRegion
section
/-
  What array.Same comes to, called with any nodes.
-/
namespace Go.Proofs.Ytcljpcbgokgcdaa
open Go.RowKit Go.Lib
set_option linter.unusedSimpArgs false
set_option linter.unusedVariables false

theorem eq_of_take {α : Type} {xs ys : List α} {n : Nat} (hx : xs.length = n) (hy : ys.length = n) (h : xs.take n = ys.take n) : xs = ys := by
  rw [List.take_of_length_le (by omega), List.take_of_length_le (by omega)] at h
  exact h
theorem take_next {α : Type} {d : α} {xs ys : List α} {k : Nat} (hx : k < xs.length) (hy : k < ys.length) (h : xs.take k = ys.take k) (he : xs.getD k d = ys.getD k d) : xs.take (k + 1) = ys.take (k + 1) := by
  rw [List.take_add_one, List.take_add_one, h]
  have e1 : xs.getD k d = xs[k] := by simp [List.getD, hx]
  have e2 : ys.getD k d = ys[k] := by simp [List.getD, hy]
  rw [List.getElem?_eq_getElem hx, List.getElem?_eq_getElem hy, ← e1, ← e2, he]
theorem ne_at {α : Type} {d : α} {xs ys : List α} {k : Nat} (he : xs.getD k d ≠ ys.getD k d) : xs ≠ ys := fun h => he (by rw [h])

set_option maxRecDepth 10000 in
set_option maxHeartbeats 800000 in
theorem eqi_any (A A' : Option Addr) (n n' cap cap' : Nat) (xs ys : List Int) (w : World) (hn : xs.length = n) (hn' : ys.length = n') (hl : n ≤ 1100000) (hl' : n' ≤ 1100000) (hr : Nums .i64 w w.heap.size A xs) (hr' : Nums .i64 w w.heap.size A' ys) :
    Calls Try.prog 61 #[.slice A n cap, .slice A' n' cap'] w (Says (decide (xs = ys)) w) := by
  have HR := Lib.hid hr
  have HR' := Lib.hid hr'
  have HN := Lib.hid hn
  have HN' := Lib.hid hn'
  clear hr hr' hn hn'
  by_cases hnn : n = n'
  · subst hnn
    have hne : (((n : Nat) : Int) != ((n : Nat) : Int)) = false := by simp
    go_enter Try.func61, Try.ntmps61
    go_wp2
    go_loopg [13] n (fun g i wr => ∃ k : Nat, k ≤ n ∧ g = n - k ∧ i = .int .i64 k ∧ Hid (xs.take k = ys.take k) ∧ Hid (Grow w wr))
    case atStart => exact ⟨0, Nat.zero_le _, rfl, rfl, Lib.hid rfl, Lib.hid (Grow.refl _)⟩
    case round =>
      obtain ⟨k, hk, rfl, rfl, HE, HG⟩ := hrel
      by_cases hlt : k < n
      · obtain ⟨b, off, rfl, hb, hc⟩ := HR.out.grow HG.out (by rw [HN.out]; omega)
        obtain ⟨b', off', rfl, hb', hc'⟩ := HR'.out.grow HG.out (by rw [HN'.out]; omega)
        have h1 := hc k (by rw [HN.out]; exact hlt)
        have h2 := hc' k (by rw [HN'.out]; exact hlt)
        have HT := Lib.hid (fun h => take_next (d := 0) (by rw [HN.out]; exact hlt) (by rw [HN'.out]; exact hlt) HE.out h)
        have HF := Lib.hid (fun h => ne_at (d := (0 : Int)) (xs := xs) (ys := ys) (k := k) h)
        clear hc hc'
        generalize xs.getD k 0 = x at h1 HT HF
        generalize ys.getD k 0 = y at h2 HT HF
        by_cases hxy : x = y
        · subst hxy
          have HT' := Lib.hid (HT.out rfl)
          clear HT HF
          have hxx : (x != x) = false := by simp
          go_wp2
          go_quiet (fail)
          go_wp2
          go_roundg (n - (k + 1))
          case rel => exact ⟨k + 1, by omega, rfl, by go_num, HT', Lib.hid (HG.out.drewN _)⟩
          case measure => omega
        · have HF' := Lib.hid (HF.out hxy)
          have hxx : (x != y) = true := by simpa using hxy
          clear HT HF
          go_wp2
          go_quiet (fail)
          go_wp2
          go_ret
          exact ⟨by rw [decide_eq_false HF'.out]; rfl, HG.out.drewN _⟩
      · obtain rfl : n = k := by omega
        have HEQ := Lib.hid (eq_of_take HN.out HN'.out HE.out)
        go_wp2
        go_ret
        exact ⟨by rw [decide_eq_true HEQ.out]; rfl, HG.out⟩
  · have hne : (((n : Nat) : Int) != ((n' : Nat) : Int)) = true := by simp; omega
    have HEQ : Hid (¬ xs = ys) := Lib.hid (fun h => hnn (by rw [← HN.out, ← HN'.out, h]))
    go_enter Try.func61, Try.ntmps61
    go_wp2
    go_ret
    exact ⟨by rw [decide_eq_false HEQ.out]; rfl, Grow.refl _⟩

set_option maxRecDepth 10000 in
set_option maxHeartbeats 800000 in
theorem eqd_any (A A' : Option Addr) (n n' cap cap' : Nat) (xs ys : List (Int × Int)) (w : World) (hn : xs.length = n) (hn' : ys.length = n') (hl : n ≤ 1100000) (hl' : n' ≤ 1100000) (hr : Decs w w.heap.size A xs) (hr' : Decs w w.heap.size A' ys) :
    Calls Try.prog 62 #[.slice A n cap, .slice A' n' cap'] w (Says (decide (xs = ys)) w) := by
  have HR := Lib.hid hr
  have HR' := Lib.hid hr'
  have HN := Lib.hid hn
  have HN' := Lib.hid hn'
  clear hr hr' hn hn'
  by_cases hnn : n = n'
  · subst hnn
    have hne : (((n : Nat) : Int) != ((n : Nat) : Int)) = false := by simp
    go_enter Try.func62, Try.ntmps62
    go_wp2
    go_loopg [13] n (fun g i wr => ∃ k : Nat, k ≤ n ∧ g = n - k ∧ i = .int .i64 k ∧ Hid (xs.take k = ys.take k) ∧ Hid (Grow w wr))
    case atStart => exact ⟨0, Nat.zero_le _, rfl, rfl, Lib.hid rfl, Lib.hid (Grow.refl _)⟩
    case round =>
      obtain ⟨k, hk, rfl, rfl, HE, HG⟩ := hrel
      by_cases hlt : k < n
      · obtain ⟨b, off, rfl, hb, hc⟩ := HR.out.grow HG.out (by rw [HN.out]; omega)
        obtain ⟨b', off', rfl, hb', hc'⟩ := HR'.out.grow HG.out (by rw [HN'.out]; omega)
        obtain ⟨h1, h1'⟩ := hc k (by rw [HN.out]; exact hlt)
        obtain ⟨h2, h2'⟩ := hc' k (by rw [HN'.out]; exact hlt)
        have HT := Lib.hid (fun h => take_next (d := (0, 0)) (by rw [HN.out]; exact hlt) (by rw [HN'.out]; exact hlt) HE.out h)
        have HF := Lib.hid (fun h => ne_at (d := ((0, 0) : Int × Int)) (xs := xs) (ys := ys) (k := k) h)
        clear hc hc'
        generalize xs.getD k (0, 0) = x at h1 h1' HT HF
        generalize ys.getD k (0, 0) = y at h2 h2' HT HF
        obtain ⟨x1, x2⟩ := x
        obtain ⟨y1, y2⟩ := y
        dsimp only at h1 h1' h2 h2'
        by_cases hxy : x1 = y1
        · subst hxy
          by_cases hxy2 : x2 = y2
          · subst hxy2
            have HT' := Lib.hid (HT.out rfl)
            clear HT HF
            have hxx : (x1 != x1) = false := by simp
            have hxx2 : (x2 != x2) = false := by simp
            go_wp2
            go_quiet (fail)
            go_wp2
            go_roundg (n - (k + 1))
            case rel => exact ⟨k + 1, by omega, rfl, by go_num, HT', Lib.hid (HG.out.drewN _)⟩
            case measure => omega
          · have HF' := Lib.hid (HF.out (fun h => hxy2 (Prod.mk.inj h).2))
            have hxx : (x2 == y2) = false := by simpa using hxy2
            clear HT HF
            go_wp2
            go_quiet (fail)
            go_wp2
            go_ret
            exact ⟨by rw [decide_eq_false HF'.out]; rfl, HG.out.drewN _⟩
        · have HF' := Lib.hid (HF.out (fun h => hxy (Prod.mk.inj h).1))
          have hxx : (x1 == y1) = false := by simpa using hxy
          clear HT HF
          go_wp2
          go_quiet (fail)
          go_wp2
          go_ret
          exact ⟨by rw [decide_eq_false HF'.out]; rfl, HG.out.drewN _⟩
      · obtain rfl : n = k := by omega
        have HEQ := Lib.hid (eq_of_take HN.out HN'.out HE.out)
        go_wp2
        go_ret
        exact ⟨by rw [decide_eq_true HEQ.out]; rfl, HG.out⟩
  · have hne : (((n : Nat) : Int) != ((n' : Nat) : Int)) = true := by simp; omega
    have HEQ : Hid (¬ xs = ys) := Lib.hid (fun h => hnn (by rw [← HN.out, ← HN'.out, h]))
    go_enter Try.func62, Try.ntmps62
    go_wp2
    go_ret
    exact ⟨by rw [decide_eq_false HEQ.out]; rfl, Grow.refl _⟩

theorem nd_ne {n m : Nd} (h : n.kind ≠ m.kind ∨ n.shp ≠ m.shp ∨ n.ints ≠ m.ints ∨ n.decs ≠ m.decs) : decide (n = m) = false := by
  refine decide_eq_false fun e => ?_
  subst e
  simp at h
theorem nd_eq {n m : Nd} (h1 : n.kind = m.kind) (h2 : n.shp = m.shp) (h3 : n.ints = m.ints) (h4 : n.decs = m.decs) : decide (n = m) = true := by
  refine decide_eq_true ?_
  cases n; cases m
  simp_all

set_option maxRecDepth 10000 in
set_option maxHeartbeats 1600000 in
theorem same1_any (n m : Nd) (A1 A2 A3 : Option Addr) (c1 c2 c3 : Nat) (B1 B2 B3 : Option Addr) (d1 d2 d3 : Nat) (w : World) (hf : Fit n) (hf' : Fit m) (hn : IsNd w w.heap.size A1 A2 A3 n) (hm : IsNd w w.heap.size B1 B2 B3 m) :
    Calls Try.prog 60 #[.agg #[.int .i64 n.kind, .slice A1 n.shp.length c1, .slice A2 n.ints.length c2, .slice A3 n.decs.length c3], .agg #[.int .i64 m.kind, .slice B1 m.shp.length d1, .slice B2 m.ints.length d2, .slice B3 m.decs.length d3]] w (Says (decide (n = m)) w) := by
  have HN := Lib.hid hn
  have HM := Lib.hid hm
  have HE1 := Lib.hid (fun W g h => eqi_any A1 B1 n.shp.length m.shp.length c1 d1 n.shp m.shp W rfl rfl hf.2.1 hf'.2.1 g h)
  have HE2 := Lib.hid (fun W g h => eqi_any A2 B2 n.ints.length m.ints.length c2 d2 n.ints m.ints W rfl rfl hf.2.2.1 hf'.2.2.1 g h)
  have HE3 := Lib.hid (fun W g h => eqd_any A3 B3 n.decs.length m.decs.length c3 d3 n.decs m.decs W rfl rfl hf.2.2.2.1 hf'.2.2.2.1 g h)
  have HNE := Lib.hid (nd_ne (n := n) (m := m))
  have HEQ := Lib.hid (nd_eq (n := n) (m := m))
  clear hn hm hf hf'
  generalize decide (n = m) = β at *
  obtain ⟨k, sh, xs, ds⟩ := n
  obtain ⟨k', sh', xs', ds'⟩ := m
  dsimp only [IsNd] at *
  let wA := (w.alloc (.cells #[.int .i64 k, .slice A1 sh.length c1, .slice A2 xs.length c2, .slice A3 ds.length c3] 30)).alloc (.cells #[.int .i64 k', .slice B1 sh'.length d1, .slice B2 xs'.length d2, .slice B3 ds'.length d3] 30)
  have HG := Lib.hid (show Grow w wA from grow_new2 _ _ _)
  have HB1 := Lib.hid (show BoxN wA w.heap.size k A1 sh.length c1 A2 xs.length c2 A3 ds.length c3 from (boxN_new w k A1 sh.length c1 A2 xs.length c2 A3 ds.length c3).grow (grow_new _ _))
  have HB2 : Hid (BoxN wA (w.heap.size + 1) k' B1 sh'.length d1 B2 xs'.length d2 B3 ds'.length d3) := Lib.hid (by
    have h := boxN_new (w.alloc (.cells #[.int .i64 k, .slice A1 sh.length c1, .slice A2 xs.length c2, .slice A3 ds.length c3] 30)) k' B1 sh'.length d1 B2 xs'.length d2 B3 ds'.length d3
    have e1 : (w.alloc (.cells #[.int .i64 k, .slice A1 sh.length c1, .slice A2 xs.length c2, .slice A3 ds.length c3] 30)).heap.size = w.heap.size + 1 := by simp
    rw [e1] at h
    exact h)
  by_cases hk : k = k'
  · subst hk
    have hkk : (k == k) = true := by simp
    have HEQ' := Lib.hid (HEQ.out rfl)
    clear HEQ
    go_enter Try.func60, Try.ntmps60
    go_wp2_with fail
    refine (HE1.out wA (HN.out.1.grow HG.out) (HM.out.1.grow HG.out)).mono ?_
    rintro e w1 ⟨rfl, hg1⟩
    have HG1 := Lib.hid (HG.out.trans hg1)
    have x2 := (HB1.out.grow hg1).at2
    have y2 := (HB2.out.grow hg1).at2
    have HX1 := Lib.hid (HB1.out.grow hg1)
    have HY1 := Lib.hid (HB2.out.grow hg1)
    clear hg1 HE1 HB1 HB2
    by_cases hs : sh = sh'
    · rw [decide_eq_true hs]
      go_wp2_with fail
      refine (HE2.out w1 (HN.out.2.1.grow HG1.out) (HM.out.2.1.grow HG1.out)).mono ?_
      rintro e w2 ⟨rfl, hg2⟩
      have HG2 := Lib.hid (HG1.out.trans hg2)
      have x3 := (HX1.out.grow hg2).at3
      have y3 := (HY1.out.grow hg2).at3
      clear hg2 HE2 HX1 HY1 x2 y2
      by_cases hi : xs = xs'
      · rw [decide_eq_true hi]
        go_wp2_with fail
        refine (HE3.out w2 (HN.out.2.2.grow HG2.out) (HM.out.2.2.grow HG2.out)).mono ?_
        rintro e w3 ⟨rfl, hg3⟩
        have HG3 := Lib.hid (HG2.out.trans hg3)
        clear hg3 HE3 x3 y3
        by_cases hd : ds = ds'
        · have HB := Lib.hid (HEQ'.out hs hi hd)
          rw [decide_eq_true hd]
          go_wp2
          go_ret
          exact ⟨by rw [HB.out]; rfl, HG3.out⟩
        · have HB := Lib.hid (HNE.out (.inr (.inr (.inr hd))))
          rw [decide_eq_false hd]
          go_wp2
          go_ret
          exact ⟨by rw [HB.out]; rfl, HG3.out⟩
      · have HB := Lib.hid (HNE.out (.inr (.inr (.inl hi))))
        rw [decide_eq_false hi]
        go_wp2
        go_ret
        exact ⟨by rw [HB.out]; rfl, HG2.out⟩
    · have HB := Lib.hid (HNE.out (.inr (.inl hs)))
      rw [decide_eq_false hs]
      go_wp2
      go_ret
      exact ⟨by rw [HB.out]; rfl, HG1.out⟩
  · have hkk : (k == k') = false := by simpa using hk
    have HB := Lib.hid (HNE.out (.inl hk))
    go_enter Try.func60, Try.ntmps60
    go_wp2
    go_ret
    exact ⟨by rw [HB.out]; rfl, HG.out⟩

set_option maxRecDepth 10000 in
set_option maxHeartbeats 1600000 in
theorem eqf_any (A A' : Option Addr) (n n' cap cap' : Nat) (xs ys : List Nd) (w : World) (hn : xs.length = n) (hn' : ys.length = n') (hl : n ≤ 1100000) (hl' : n' ≤ 1100000) (hf : Fits xs) (hf' : Fits ys) (hr : Nodes w w.heap.size A xs) (hr' : Nodes w w.heap.size A' ys) :
    Calls Try.prog 59 #[.slice A n cap, .slice A' n' cap', .func (.func 60) #[] #[]] w (Says (decide (xs = ys)) w) := by
  have HR := Lib.hid hr
  have HR' := Lib.hid hr'
  have HN := Lib.hid hn
  have HN' := Lib.hid hn'
  have HF := Lib.hid hf
  have HF' := Lib.hid hf'
  clear hr hr' hn hn' hf hf'
  by_cases hnn : n = n'
  · subst hnn
    have hne : (((n : Nat) : Int) != ((n : Nat) : Int)) = false := by simp
    go_enter Try.func59, Try.ntmps59
    go_wp2
    go_loopg [17] n (fun g i wr => ∃ k : Nat, k ≤ n ∧ g = n - k ∧ i = .int .i64 k ∧ Hid (xs.take k = ys.take k) ∧ Hid (Grow w wr))
    case atStart => exact ⟨0, Nat.zero_le _, rfl, rfl, Lib.hid rfl, Lib.hid (Grow.refl _)⟩
    case round =>
      obtain ⟨k, hk, rfl, rfl, HE, HG⟩ := hrel
      by_cases hlt : k < n
      · have hlti : ((k : Nat) : Int) < ((n : Nat) : Int) := by omega
        obtain ⟨b, off, rfl, hb, hc⟩ := HR.out.grow HG.out (by rw [HN.out]; omega)
        obtain ⟨b', off', rfl, hb', hc'⟩ := HR'.out.grow HG.out (by rw [HN'.out]; omega)
        obtain ⟨A1, c1, A2, c2, A3, c3, p0, p1, p2, p3, hnd⟩ := hc k (by rw [HN.out]; exact hlt)
        obtain ⟨B1, d1, B2, d2, B3, d3, q0, q1, q2, q3, hnd'⟩ := hc' k (by rw [HN'.out]; exact hlt)
        have HT := Lib.hid (fun h => take_next (d := nd0) (by rw [HN.out]; exact hlt) (by rw [HN'.out]; exact hlt) HE.out h)
        have HNE := Lib.hid (fun h => ne_at (d := nd0) (xs := xs) (ys := ys) (k := k) h)
        have HFX := Lib.hid (HF.out.at_ k)
        have HFY := Lib.hid (HF'.out.at_ k)
        have HND := Lib.hid hnd
        have HND' := Lib.hid hnd'
        clear hc hc' hnd hnd' hb hb'
        generalize xs.getD k nd0 = x at p0 p1 p2 p3 HT HNE HFX HND
        generalize ys.getD k nd0 = y at q0 q1 q2 q3 HT HNE HFY HND'
        have HC := Lib.hid (fun W g h => same1_any x y A1 A2 A3 c1 c2 c3 B1 B2 B3 d1 d2 d3 W HFX.out HFY.out g h)
        have e0 : ∀ o, (wr.alloc o).cell? ⟨b', off' + k * 4, none⟩ = some (.int .i64 y.kind) := fun o => ((grow_new wr o).cell (block_lt_of_cell q0)).trans q0
        have e1 : ∀ o, (wr.alloc o).cell? ⟨b', off' + k * 4 + 1, none⟩ = some (.slice B1 y.shp.length d1) := fun o => ((grow_new wr o).cell (block_lt_of_cell q1)).trans q1
        have e2 : ∀ o, (wr.alloc o).cell? ⟨b', off' + k * 4 + 2, none⟩ = some (.slice B2 y.ints.length d2) := fun o => ((grow_new wr o).cell (block_lt_of_cell q2)).trans q2
        have e3 : ∀ o, (wr.alloc o).cell? ⟨b', off' + k * 4 + 3, none⟩ = some (.slice B3 y.decs.length d3) := fun o => ((grow_new wr o).cell (block_lt_of_cell q3)).trans q3
        clear q0 q1 q2 q3
        by_cases hxy : x = y
        · have HT' := Lib.hid (HT.out hxy)
          rw [decide_eq_true hxy] at HC
          clear HT HNE hxy
          go_wp2_with (go_at_call 60; refine (HC.out _ (HND.out.grow (grow_new2 _ _ _)) (HND'.out.grow (grow_new2 _ _ _))).mono ?_; rintro e w2 ⟨rfl, hg2⟩)
          go_roundg (n - (k + 1))
          case rel => exact ⟨k + 1, by omega, rfl, by go_num, HT', Lib.hid ((HG.out.trans (grow_new2 _ _ _)).trans hg2)⟩
          case measure => omega
        · have HF' := Lib.hid (HNE.out hxy)
          rw [decide_eq_false hxy] at HC
          clear HT HNE hxy
          go_wp2_with (go_at_call 60; refine (HC.out _ (HND.out.grow (grow_new2 _ _ _)) (HND'.out.grow (grow_new2 _ _ _))).mono ?_; rintro e w2 ⟨rfl, hg2⟩)
          go_ret
          exact ⟨by rw [decide_eq_false HF'.out]; rfl, (HG.out.trans (grow_new2 _ _ _)).trans hg2⟩
      · obtain rfl : n = k := by omega
        have HEQ := Lib.hid (eq_of_take HN.out HN'.out HE.out)
        go_wp2
        go_ret
        exact ⟨by rw [decide_eq_true HEQ.out]; rfl, HG.out⟩
  · have hne : (((n : Nat) : Int) != ((n' : Nat) : Int)) = true := by simp; omega
    have HEQ : Hid (¬ xs = ys) := Lib.hid (fun h => hnn (by rw [← HN.out, ← HN'.out, h]))
    go_enter Try.func59, Try.ntmps59
    go_wp2
    go_ret
    exact ⟨by rw [decide_eq_false HEQ.out]; rfl, Grow.refl _⟩

theorem same_any (A A' : Option Addr) (n n' cap cap' : Nat) (xs ys : List Nd) (w : World) (hn : xs.length = n) (hn' : ys.length = n') (hl : n ≤ 1100000) (hl' : n' ≤ 1100000) (hf : Fits xs) (hf' : Fits ys) (hr : Nodes w w.heap.size A xs) (hr' : Nodes w w.heap.size A' ys) :
    Calls Try.prog 39 #[.slice A n cap, .slice A' n' cap'] w (Says (decide (xs = ys)) w) := by
  have HC := Lib.hid (eqf_any A A' n n' cap cap' xs ys w hn hn' hl hl' hf hf' hr hr')
  clear hn hn' hl hl' hf hf' hr hr'
  generalize decide (xs = ys) = β at *
  go_enter Try.func39, Try.ntmps39
  go_wp2_with fail
  refine (HC.out).mono ?_
  rintro e w2 ⟨rfl, hg⟩
  go_wp2
  go_ret
  exact ⟨rfl, hg⟩
end Go.Proofs.Ytcljpcbgokgcdaa
end

section
/-
  What the document's own Same (of numbers), One and Same (of nodes) come to.
-/
namespace Go.Proofs.Ytcljpcbgokgcdaa
open Go.RowKit Go.Lib
set_option linter.unusedSimpArgs false
set_option linter.unusedVariables false

set_option maxRecDepth 10000 in
set_option maxHeartbeats 800000 in
theorem rsame_any (A A' : Option Addr) (n n' cap cap' : Nat) (xs ys : List Int) (w : World) (hn : xs.length = n) (hn' : ys.length = n') (hl : n ≤ 1100000) (hl' : n' ≤ 1100000) (hr : Nums .i64 w w.heap.size A xs) (hr' : Nums .i64 w w.heap.size A' ys) :
    Calls Try.prog 25 #[.slice A n cap, .slice A' n' cap'] w (Says (decide (xs = ys)) w) := by
  have HR := Lib.hid hr
  have HR' := Lib.hid hr'
  have HN := Lib.hid hn
  have HN' := Lib.hid hn'
  clear hr hr' hn hn'
  by_cases hnn : n = n'
  · subst hnn
    have hne : (((n : Nat) : Int) != ((n : Nat) : Int)) = false := by simp
    go_enter Try.func25, Try.ntmps25
    go_wp2
    go_loopg [5] n (fun g i wr => ∃ k : Nat, k ≤ n ∧ g = n - k ∧ i = .int .i64 k ∧ Hid (xs.take k = ys.take k) ∧ Hid (Grow w wr))
    case atStart => exact ⟨0, Nat.zero_le _, rfl, rfl, Lib.hid rfl, Lib.hid (Grow.refl _)⟩
    case round =>
      obtain ⟨k, hk, rfl, rfl, HE, HG⟩ := hrel
      by_cases hlt : k < n
      · obtain ⟨b, off, rfl, hb, hc⟩ := HR.out.grow HG.out (by rw [HN.out]; omega)
        obtain ⟨b', off', rfl, hb', hc'⟩ := HR'.out.grow HG.out (by rw [HN'.out]; omega)
        have h1 := hc k (by rw [HN.out]; exact hlt)
        have h2 := hc' k (by rw [HN'.out]; exact hlt)
        have HT := Lib.hid (fun h => take_next (d := 0) (by rw [HN.out]; exact hlt) (by rw [HN'.out]; exact hlt) HE.out h)
        have HF := Lib.hid (fun h => ne_at (d := (0 : Int)) (xs := xs) (ys := ys) (k := k) h)
        clear hc hc'
        generalize xs.getD k 0 = x at h1 HT HF
        generalize ys.getD k 0 = y at h2 HT HF
        by_cases hxy : x = y
        · subst hxy
          have HT' := Lib.hid (HT.out rfl)
          clear HT HF
          have hxx : (x != x) = false := by simp
          go_wp2
          go_quiet (fail)
          go_wp2
          go_roundg (n - (k + 1))
          case rel => exact ⟨k + 1, by omega, rfl, by go_num, HT', Lib.hid (HG.out.drewN _)⟩
          case measure => omega
        · have HF' := Lib.hid (HF.out hxy)
          have hxx : (x != y) = true := by simpa using hxy
          clear HT HF
          go_wp2
          go_quiet (fail)
          go_wp2
          go_ret
          exact ⟨by rw [decide_eq_false HF'.out]; rfl, HG.out.drewN _⟩
      · obtain rfl : n = k := by omega
        have HEQ := Lib.hid (eq_of_take HN.out HN'.out HE.out)
        go_wp2
        go_ret
        exact ⟨by rw [decide_eq_true HEQ.out]; rfl, HG.out⟩
  · have hne : (((n : Nat) : Int) != ((n' : Nat) : Int)) = true := by simp; omega
    have HEQ : Hid (¬ xs = ys) := Lib.hid (fun h => hnn (by rw [← HN.out, ← HN'.out, h]))
    go_enter Try.func25, Try.ntmps25
    go_wp2
    go_ret
    exact ⟨by rw [decide_eq_false HEQ.out]; rfl, Grow.refl _⟩

set_option maxRecDepth 10000 in
set_option maxHeartbeats 3200000 in
theorem rone_any (n m : Nd) (A1 A2 A3 : Option Addr) (c1 c2 c3 : Nat) (B1 B2 B3 : Option Addr) (d1 d2 d3 : Nat) (w : World) (hf : Fit n) (hf' : Fit m) (hn : IsNd w w.heap.size A1 A2 A3 n) (hm : IsNd w w.heap.size B1 B2 B3 m) :
    Calls Try.prog 17 #[.agg #[.int .i64 n.kind, .slice A1 n.shp.length c1, .slice A2 n.ints.length c2, .slice A3 n.decs.length c3], .agg #[.int .i64 m.kind, .slice B1 m.shp.length d1, .slice B2 m.ints.length d2, .slice B3 m.decs.length d3]] w (Says (decide (n = m)) w) := by
  have HN := Lib.hid hn
  have HM := Lib.hid hm
  have HE1 := Lib.hid (fun W g h => rsame_any A1 B1 n.shp.length m.shp.length c1 d1 n.shp m.shp W rfl rfl hf.2.1 hf'.2.1 g h)
  have HE2 := Lib.hid (fun W g h => rsame_any A2 B2 n.ints.length m.ints.length c2 d2 n.ints m.ints W rfl rfl hf.2.2.1 hf'.2.2.1 g h)
  have HNE := Lib.hid (nd_ne (n := n) (m := m))
  have HEQ := Lib.hid (nd_eq (n := n) (m := m))
  have hl3 := hf.2.2.2.1
  have hl3' := hf'.2.2.2.1
  clear hn hm hf hf'
  generalize decide (n = m) = β at *
  obtain ⟨k, sh, xs, ds⟩ := n
  obtain ⟨k', sh', xs', ds'⟩ := m
  dsimp only [IsNd] at *
  obtain ⟨D, hD⟩ : ∃ D, ds.length = D := ⟨_, rfl⟩
  obtain ⟨D', hD'⟩ : ∃ D', ds'.length = D' := ⟨_, rfl⟩
  rw [hD] at hl3 ⊢
  rw [hD'] at hl3' ⊢
  have HD := Lib.hid hD
  have HD' := Lib.hid hD'
  clear hD hD'
  obtain ⟨wA, hwA⟩ : ∃ wA, wA = (w.alloc (.cells #[.int .i64 k, .slice A1 sh.length c1, .slice A2 xs.length c2, .slice A3 D c3] 30)).alloc (.cells #[.int .i64 k', .slice B1 sh'.length d1, .slice B2 xs'.length d2, .slice B3 D' d3] 30) := ⟨_, rfl⟩
  have HG := Lib.hid (show Grow w wA by rw [hwA]; exact grow_new2 _ _ _)
  have HB1 := Lib.hid (show BoxN wA w.heap.size k A1 sh.length c1 A2 xs.length c2 A3 D c3 by rw [hwA]; exact (boxN_new w k A1 sh.length c1 A2 xs.length c2 A3 D c3).grow (grow_new _ _))
  have HB2 : Hid (BoxN wA (w.heap.size + 1) k' B1 sh'.length d1 B2 xs'.length d2 B3 D' d3) := Lib.hid (by
    have h := boxN_new (w.alloc (.cells #[.int .i64 k, .slice A1 sh.length c1, .slice A2 xs.length c2, .slice A3 D c3] 30)) k' B1 sh'.length d1 B2 xs'.length d2 B3 D' d3
    have e1 : (w.alloc (.cells #[.int .i64 k, .slice A1 sh.length c1, .slice A2 xs.length c2, .slice A3 D c3] 30)).heap.size = w.heap.size + 1 := by simp
    rw [e1] at h
    rw [hwA]
    exact h)
  by_cases hDD : D = D'
  · subst hDD
    have hne : (((D : Nat) : Int) != ((D : Nat) : Int)) = false := by simp
    go_enter Try.func17, Try.ntmps17
    go_wp2
    rw [← hwA]
    clear hwA
    go_loopg [5] D (fun g s5 wr => ∃ j : Nat, j ≤ D ∧ g = D - j ∧ s5 = .int .i64 j ∧ Hid (ds.take j = ds'.take j) ∧ Hid (Grow wA wr))
    case atStart => exact ⟨0, Nat.zero_le _, rfl, rfl, Lib.hid rfl, Lib.hid (Grow.refl _)⟩
    case round =>
      obtain ⟨j, hj, rfl, rfl, HE, HGR⟩ := hrel
      have HBW1 := Lib.hid (HB1.out.grow HGR.out)
      have HBW2 := Lib.hid (HB2.out.grow HGR.out)
      have x0 := HBW1.out.at0
      have x1 := HBW1.out.at1
      have x2 := HBW1.out.at2
      have x3 := HBW1.out.at3
      have y0 := HBW2.out.at0
      have y1 := HBW2.out.at1
      have y2 := HBW2.out.at2
      have y3 := HBW2.out.at3
      by_cases hlt : j < D
      · have hlti : ((j : Nat) : Int) < ((D : Nat) : Int) := by omega
        obtain ⟨b, off, rfl, hb, hc⟩ := HN.out.2.2.grow (HG.out.trans HGR.out) (by rw [HD.out]; omega)
        obtain ⟨b', off', rfl, hb', hc'⟩ := HM.out.2.2.grow (HG.out.trans HGR.out) (by rw [HD'.out]; omega)
        obtain ⟨h1, h1'⟩ := hc j (by rw [HD.out]; exact hlt)
        obtain ⟨h2, h2'⟩ := hc' j (by rw [HD'.out]; exact hlt)
        have HT := Lib.hid (fun h => take_next (d := (0, 0)) (by rw [HD.out]; exact hlt) (by rw [HD'.out]; exact hlt) HE.out h)
        have HF := Lib.hid (fun h => ne_at (d := ((0, 0) : Int × Int)) (xs := ds) (ys := ds') (k := j) h)
        clear hc hc' hb hb' x0 x1 x2 y0 y1 y2
        generalize ds.getD j (0, 0) = x at h1 h1' HT HF
        generalize ds'.getD j (0, 0) = y at h2 h2' HT HF
        obtain ⟨p1, p2⟩ := x
        obtain ⟨q1, q2⟩ := y
        dsimp only at h1 h1' h2 h2'
        by_cases hxy : p1 = q1
        · subst hxy
          by_cases hxy2 : p2 = q2
          · subst hxy2
            have HT' := Lib.hid (HT.out rfl)
            clear HT HF
            have hxx : (p1 != p1) = false := by simp
            have hxx2 : (p2 != p2) = false := by simp
            go_wp2
            go_quiet (fail)
            go_wp2
            go_roundg (D - (j + 1))
            case rel => exact ⟨j + 1, by omega, rfl, by go_num, HT', Lib.hid (HGR.out.drewN _)⟩
            case measure => omega
          · have HF' := Lib.hid (HNE.out (.inr (.inr (.inr (HF.out (fun h => hxy2 (Prod.mk.inj h).2))))))
            have hxx : (p2 == q2) = false := by simpa using hxy2
            clear HT HF
            go_wp2
            go_quiet (fail)
            go_wp2
            go_ret
            exact ⟨by rw [HF'.out]; rfl, (HG.out.trans HGR.out).drewN _⟩
        · have HF' := Lib.hid (HNE.out (.inr (.inr (.inr (HF.out (fun h => hxy (Prod.mk.inj h).1))))))
          have hxx : (p1 == q1) = false := by simpa using hxy
          clear HT HF
          go_wp2
          go_quiet (fail)
          go_wp2
          go_ret
          exact ⟨by rw [HF'.out]; rfl, (HG.out.trans HGR.out).drewN _⟩
      · obtain rfl : D = j := by omega
        have HDQ := Lib.hid (eq_of_take HD.out HD'.out HE.out)
        have HGW := Lib.hid (HG.out.trans HGR.out)
        clear HGR HG HB1 HB2 x0 y0
        have x0 := HBW1.out.at0
        have y0 := HBW2.out.at0
        by_cases hk : k = k'
        · subst hk
          have hkk : (k == k) = true := by simp
          have HEQ' := Lib.hid (HEQ.out rfl)
          clear HEQ
          go_wp2_with fail
          refine (HE1.out wr (HN.out.1.grow HGW.out) (HM.out.1.grow HGW.out)).mono ?_
          rintro e w1 ⟨rfl, hg1⟩
          have HG1 := Lib.hid (HGW.out.trans hg1)
          have x2 := (HBW1.out.grow hg1).at2
          have y2 := (HBW2.out.grow hg1).at2
          clear hg1 HE1 HBW1 HBW2 x0 x1 x3 y0 y1 y3
          by_cases hs : sh = sh'
          · rw [decide_eq_true hs]
            go_wp2_with fail
            refine (HE2.out w1 (HN.out.2.1.grow HG1.out) (HM.out.2.1.grow HG1.out)).mono ?_
            rintro e w2 ⟨rfl, hg2⟩
            have HG2 := Lib.hid (HG1.out.trans hg2)
            clear hg2 HE2 x2 y2
            by_cases hi : xs = xs'
            · have HB := Lib.hid (HEQ'.out hs hi HDQ.out)
              rw [decide_eq_true hi]
              go_wp2
              go_ret
              exact ⟨by rw [HB.out]; rfl, HG2.out⟩
            · have HB := Lib.hid (HNE.out (.inr (.inr (.inl hi))))
              rw [decide_eq_false hi]
              go_wp2
              go_ret
              exact ⟨by rw [HB.out]; rfl, HG2.out⟩
          · have HB := Lib.hid (HNE.out (.inr (.inl hs)))
            rw [decide_eq_false hs]
            go_wp2
            go_ret
            exact ⟨by rw [HB.out]; rfl, HG1.out⟩
        · have hkk : (k == k') = false := by simpa using hk
          have HB := Lib.hid (HNE.out (.inl hk))
          go_wp2
          go_ret
          exact ⟨by rw [HB.out]; rfl, HGW.out⟩
  · have hne : (((D : Nat) : Int) != ((D' : Nat) : Int)) = true := by simp; omega
    have HB := Lib.hid (HNE.out (.inr (.inr (.inr (fun h => hDD (by rw [← HD.out, ← HD'.out, h]))))))
    go_enter Try.func17, Try.ntmps17
    go_wp2
    go_ret
    rw [← hwA]
    exact ⟨by rw [HB.out]; rfl, HG.out⟩

set_option maxRecDepth 10000 in
set_option maxHeartbeats 3200000 in
theorem rsameN_any (A A' : Option Addr) (n n' cap cap' : Nat) (xs ys : List Nd) (w : World) (hn : xs.length = n) (hn' : ys.length = n') (hl : n ≤ 1100000) (hl' : n' ≤ 1100000) (hf : Fits xs) (hf' : Fits ys) (hr : Nodes w w.heap.size A xs) (hr' : Nodes w w.heap.size A' ys) :
    Calls Try.prog 16 #[.slice A n cap, .slice A' n' cap'] w (Says (decide (xs = ys)) w) := by
  have HR := Lib.hid hr
  have HR' := Lib.hid hr'
  have HN := Lib.hid hn
  have HN' := Lib.hid hn'
  have HF := Lib.hid hf
  have HF' := Lib.hid hf'
  clear hr hr' hn hn' hf hf'
  by_cases hnn : n = n'
  · subst hnn
    have hne : (((n : Nat) : Int) != ((n : Nat) : Int)) = false := by simp
    go_enter Try.func16, Try.ntmps16
    go_wp2
    go_loopg [5] n (fun g i wr => ∃ k : Nat, k ≤ n ∧ g = n - k ∧ i = .int .i64 k ∧ Hid (xs.take k = ys.take k) ∧ Hid (Grow w wr))
    case atStart => exact ⟨0, Nat.zero_le _, rfl, rfl, Lib.hid rfl, Lib.hid (Grow.refl _)⟩
    case round =>
      obtain ⟨k, hk, rfl, rfl, HE, HG⟩ := hrel
      by_cases hlt : k < n
      · have hlti : ((k : Nat) : Int) < ((n : Nat) : Int) := by omega
        obtain ⟨b, off, rfl, hb, hc⟩ := HR.out.grow HG.out (by rw [HN.out]; omega)
        obtain ⟨b', off', rfl, hb', hc'⟩ := HR'.out.grow HG.out (by rw [HN'.out]; omega)
        obtain ⟨A1, c1, A2, c2, A3, c3, p0, p1, p2, p3, hnd⟩ := hc k (by rw [HN.out]; exact hlt)
        obtain ⟨B1, d1, B2, d2, B3, d3, q0, q1, q2, q3, hnd'⟩ := hc' k (by rw [HN'.out]; exact hlt)
        have HT := Lib.hid (fun h => take_next (d := nd0) (by rw [HN.out]; exact hlt) (by rw [HN'.out]; exact hlt) HE.out h)
        have HNE := Lib.hid (fun h => ne_at (d := nd0) (xs := xs) (ys := ys) (k := k) h)
        have HFX := Lib.hid (HF.out.at_ k)
        have HFY := Lib.hid (HF'.out.at_ k)
        have HND := Lib.hid hnd
        have HND' := Lib.hid hnd'
        clear hc hc' hnd hnd'
        have HBX := Lib.hid hb
        have HBY := Lib.hid hb'
        clear hb hb'
        generalize xs.getD k nd0 = x at p0 p1 p2 p3 HT HNE HFX HND
        generalize ys.getD k nd0 = y at q0 q1 q2 q3 HT HNE HFY HND'
        have P0 := Lib.hid p0
        have P1 := Lib.hid p1
        have P2 := Lib.hid p2
        have P3 := Lib.hid p3
        have Q0 := Lib.hid q0
        have Q1 := Lib.hid q1
        have Q2 := Lib.hid q2
        have Q3 := Lib.hid q3
        clear p0 p1 p2 p3 q0 q1 q2 q3
        have HC := Lib.hid (fun W g h => rone_any x y A1 A2 A3 c1 c2 c3 B1 B2 B3 d1 d2 d3 W HFX.out HFY.out g h)
        obtain ⟨β, hβ⟩ : ∃ β, decide (x = y) = β := ⟨_, rfl⟩
        rw [hβ] at HC
        have HBE := Lib.hid hβ
        clear hβ
        go_wp2
        refine wp_region_R Grow (n := 10) rfl (by kernel_rfl) ?_
        intro W0 hW0e hW0
        have p0 : ∀ wg, Grow W0 wg → wg.cell? ⟨b, off + k * 4, none⟩ = some (.int .i64 x.kind) := fun wg h => ((hW0.trans h).cell (p := ⟨b, off + k * 4, none⟩) HBX.out).trans P0.out
        have p1 : ∀ wg, Grow W0 wg → wg.cell? ⟨b, off + k * 4 + 1, none⟩ = some (.slice A1 x.shp.length c1) := fun wg h => ((hW0.trans h).cell (p := ⟨b, off + k * 4 + 1, none⟩) HBX.out).trans P1.out
        have p2 : ∀ wg, Grow W0 wg → wg.cell? ⟨b, off + k * 4 + 2, none⟩ = some (.slice A2 x.ints.length c2) := fun wg h => ((hW0.trans h).cell (p := ⟨b, off + k * 4 + 2, none⟩) HBX.out).trans P2.out
        have p3 : ∀ wg, Grow W0 wg → wg.cell? ⟨b, off + k * 4 + 3, none⟩ = some (.slice A3 x.decs.length c3) := fun wg h => ((hW0.trans h).cell (p := ⟨b, off + k * 4 + 3, none⟩) HBX.out).trans P3.out
        have q0 : ∀ wg, Grow W0 wg → wg.cell? ⟨b', off' + k * 4, none⟩ = some (.int .i64 y.kind) := fun wg h => ((hW0.trans h).cell (p := ⟨b', off' + k * 4, none⟩) HBY.out).trans Q0.out
        have q1 : ∀ wg, Grow W0 wg → wg.cell? ⟨b', off' + k * 4 + 1, none⟩ = some (.slice B1 y.shp.length d1) := fun wg h => ((hW0.trans h).cell (p := ⟨b', off' + k * 4 + 1, none⟩) HBY.out).trans Q1.out
        have q2 : ∀ wg, Grow W0 wg → wg.cell? ⟨b', off' + k * 4 + 2, none⟩ = some (.slice B2 y.ints.length d2) := fun wg h => ((hW0.trans h).cell (p := ⟨b', off' + k * 4 + 2, none⟩) HBY.out).trans Q2.out
        have q3 : ∀ wg, Grow W0 wg → wg.cell? ⟨b', off' + k * 4 + 3, none⟩ = some (.slice B3 y.decs.length d3) := fun wg h => ((hW0.trans h).cell (p := ⟨b', off' + k * 4 + 3, none⟩) HBY.out).trans Q3.out
        have HW0 := Lib.hid hW0
        clear hW0
        clear hW0e
        refine wpR_take growOrd (i := 0) (v := ?vf1) rfl (by kernel_rfl) (by kernel_rfl) (by kernel_rfl) (fun _ _ _ h => h) (by rfl) ?hf1 ?rf1
        case hf1 => (intro wg hSw; go_simp <;> with_reducible rfl)
        simp only [Act.put, List.setIfInBounds_toArray, List.set_cons_zero, List.set_cons_succ]
        refine wpR_take growOrd (i := 1) (v := ?vf2) rfl (by kernel_rfl) (by kernel_rfl) (by kernel_rfl) (fun _ _ _ h => h) (by rfl) ?hf2 ?rf2
        case hf2 => (intro wg hSw; go_simp <;> with_reducible rfl)
        simp only [Act.put, List.setIfInBounds_toArray, List.set_cons_zero, List.set_cons_succ]
        refine wpR_take growOrd (i := 2) (v := ?vf3) rfl (by kernel_rfl) (by kernel_rfl) (by kernel_rfl) (fun _ _ _ h => h) (by rfl) ?hf3 ?rf3
        case hf3 => (intro wg hSw; go_simp <;> with_reducible rfl)
        simp only [Act.put, List.setIfInBounds_toArray, List.set_cons_zero, List.set_cons_succ]
        refine wpR_take growOrd (i := 3) (v := ?vf4) rfl (by kernel_rfl) (by kernel_rfl) (by kernel_rfl) (fun _ _ _ h => h) (by rfl) ?hf4 ?rf4
        case hf4 => (intro wg hSw; go_simp <;> with_reducible rfl)
        simp only [Act.put, List.setIfInBounds_toArray, List.set_cons_zero, List.set_cons_succ]
        refine wpR_take growOrd (i := 4) (v := ?vf5) rfl (by kernel_rfl) (by kernel_rfl) (by kernel_rfl) (fun _ _ _ h => h) (by rfl) ?hf5 ?rf5
        case hf5 => (intro wg hSw; go_simp <;> with_reducible rfl)
        simp only [Act.put, List.setIfInBounds_toArray, List.set_cons_zero, List.set_cons_succ]
        refine wpR_take growOrd (i := 5) (v := ?vf6) rfl (by kernel_rfl) (by kernel_rfl) (by kernel_rfl) (fun _ _ _ h => h) (by rfl) ?hf6 ?rf6
        case hf6 => (intro wg hSw; go_simp <;> with_reducible rfl)
        simp only [Act.put, List.setIfInBounds_toArray, List.set_cons_zero, List.set_cons_succ]
        refine wpR_take growOrd (i := 6) (v := ?vf7) rfl (by kernel_rfl) (by kernel_rfl) (by kernel_rfl) (fun _ _ _ h => h) (by rfl) ?hf7 ?rf7
        case hf7 => (intro wg hSw; go_simp <;> with_reducible rfl)
        simp only [Act.put, List.setIfInBounds_toArray, List.set_cons_zero, List.set_cons_succ]
        refine wpR_take growOrd (i := 7) (v := ?vf8) rfl (by kernel_rfl) (by kernel_rfl) (by kernel_rfl) (fun _ _ _ h => h) (by rfl) ?hf8 ?rf8
        case hf8 => (intro wg hSw; go_simp <;> with_reducible rfl)
        simp only [Act.put, List.setIfInBounds_toArray, List.set_cons_zero, List.set_cons_succ]
        refine wpR_one (i := 8) (by kernel_rfl) ?_
        refine wpR_op (i := 8) rfl (by rfl) (fun K hK => ?_)
        go_simp
        refine (HC.out _ (HND.out.grow (HW0.out.trans ((growOrd).refl W0))) (HND'.out.grow (HW0.out.trans ((growOrd).refl W0)))).mono ?_
        rintro e wM8 ⟨rfl, hN8⟩
        have hM8 : Grow W0 wM8 := hN8
        clear p0 p1 p2 p3 q0 q1 q2 q3
        refine hK.out _ _ hM8 ?_
        clear hK K
        try simp only [Act.put, List.setIfInBounds_toArray, List.set_cons_zero, List.set_cons_succ]
        refine wpR_take growOrd (i := 9) (v := ?vf9) rfl (by kernel_rfl) (by kernel_rfl) (by kernel_rfl) (fun _ _ _ h => h) (by rfl) ?hf9 ?rf9
        case hf9 => (intro wg hSw; go_simp <;> with_reducible rfl)
        simp only [Act.put, List.setIfInBounds_toArray, List.set_cons_zero, List.set_cons_succ]
        refine wpR_done (by kernel_rfl) ?_
        have HGW := Lib.hid (HG.out.trans (HW0.out.trans ((growOrd).trans ((growOrd).refl W0) hM8)))
        cases β with
        | true =>
          have HT' := Lib.hid (HT.out (of_decide_eq_true HBE.out))
          go_wp2
          go_roundg (n - (k + 1))
          case rel => exact ⟨k + 1, by omega, rfl, by go_num, HT', HGW⟩
          case measure => omega
        | false =>
          have HF2 := Lib.hid (HNE.out (of_decide_eq_false HBE.out))
          go_wp2
          go_ret
          exact ⟨by rw [decide_eq_false HF2.out]; rfl, HGW.out⟩
      · obtain rfl : n = k := by omega
        have HEQ := Lib.hid (eq_of_take HN.out HN'.out HE.out)
        go_wp2
        go_ret
        exact ⟨by rw [decide_eq_true HEQ.out]; rfl, HG.out⟩
  · have hne : (((n : Nat) : Int) != ((n' : Nat) : Int)) = true := by simp; omega
    have HEQ : Hid (¬ xs = ys) := Lib.hid (fun h => hnn (by rw [← HN.out, ← HN'.out, h]))
    go_enter Try.func16, Try.ntmps16
    go_wp2
    go_ret
    exact ⟨by rw [decide_eq_false HEQ.out]; rfl, Grow.refl _⟩
end Go.Proofs.Ytcljpcbgokgcdaa
end
