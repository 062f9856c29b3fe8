/-
  TightTells comes to true, whatever it is called with.
-/
import Derived.Test.YtcljpcbgokgcdaaRMakes
import Derived.Test.YtcljpcbgokgcdaaLOnce
import Derived.Test.YtcljpcbgokgcdaaRCopy
import Derived.Test.YtcljpcbgokgcdaaRowIn
import Derived.Test.YtcljpcbgokgcdaaDecsIn
namespace Go.Proofs.Ytcljpcbgokgcdaa
open Go.RowKit Go.Lib
set_option linter.unusedSimpArgs false
set_option linter.unusedVariables false

/-- a row of numbers of this length, whatever they are -/
def RowOf (w : World) (b l : Nat) : Prop := ∃ cur, w.heap[b]? = some (.cells cur 3 (0, 0)) ∧ cur.size = l
theorem RowOf.set {w : World} {b l b' j : Nat} {v : Value} (h : RowOf w b l) : RowOf (w.setCell ⟨b', j, none⟩ v) b l := by
  obtain ⟨cur, hc, hl⟩ := h
  by_cases e : b = b'
  · subst e
    exact ⟨_, heap_setCell_same w b j cur _ v hc, by simpa using hl⟩
  · exact ⟨cur, (heap_setCell_other w ⟨b', j, none⟩ b v e).trans hc, hl⟩
theorem RowOf.grow {w w' : World} {b l : Nat} (h : RowOf w b l) (hg : Grow w w') : RowOf w' b l := by
  obtain ⟨cur, hc, hl⟩ := h
  exact ⟨cur, (hg.block b (heap_lt hc)).trans hc, hl⟩
theorem RowOf.at_ {w : World} {b l j : Nat} (h : RowOf w b l) (hj : j < l) : ∃ v, w.cell? ⟨b, j, none⟩ = some v := by
  obtain ⟨cur, hc, hl⟩ := h
  have : j < cur.size := by omega
  exact ⟨cur[j], by rw [cell_of_row w b j cur _ (0, 0) hc, Array.getElem?_eq_getElem this]⟩
theorem RowOf.froz {w : World} {b l : Nat} (h : RowOf w b l) (j : Nat) : w.frozen? ⟨b, j, none⟩ = false := by
  obtain ⟨cur, hc, hl⟩ := h
  exact frozen_of_row w b j cur _ hc
/-- the rows of nodes that may be written over, as they lie -/
def Shell (g : Nat) (f : Nat → Value) (ns : List Nd) (w : World) : Prop :=
  w.rowIs g 30 (ns.length * 4) f ∧ ∀ i, i < ns.length → ∃ b1 b2, g < b1 ∧ g < b2 ∧ f (i * 4 + 1) = .slice (some ⟨b1, 0, none⟩) (ns.getD i nd0).shp.length (ns.getD i nd0).shp.length ∧
    f (i * 4 + 2) = .slice (some ⟨b2, 0, none⟩) (ns.getD i nd0).ints.length (ns.getD i nd0).ints.length ∧ RowOf w b1 (ns.getD i nd0).shp.length ∧ RowOf w b2 (ns.getD i nd0).ints.length
theorem Copied.shell {w : World} {g : Nat} {ns : List Nd} (h : Copied w g ns) : ∃ f, Shell g f ns w := by
  obtain ⟨f, hr, ho⟩ := h
  refine ⟨f, hr, fun i hi => ?_⟩
  obtain ⟨b1, b2, b3, g1, g2, g3, h0, h1, h2, h3, r1, r2, r3⟩ := ho i hi
  exact ⟨b1, b2, g1, g2, h1, h2, ⟨_, r1, by simp [ivs]⟩, ⟨_, r2, by simp [ivs]⟩⟩
theorem Shell.grow {g : Nat} {f : Nat → Value} {ns : List Nd} {w w' : World} (h : Shell g f ns w) (hg : Grow w w') : Shell g f ns w' :=
  ⟨h.1.of_block (hg.block g h.1.lt), fun i hi => by
    obtain ⟨b1, b2, g1, g2, h1, h2, r1, r2⟩ := h.2 i hi
    exact ⟨b1, b2, g1, g2, h1, h2, r1.grow hg, r2.grow hg⟩⟩
theorem Shell.set {g : Nat} {f : Nat → Value} {ns : List Nd} {w : World} (h : Shell g f ns w) {b j : Nat} (hb : g < b) (v : Value) : Shell g f ns (w.setCell ⟨b, j, none⟩ v) :=
  ⟨h.1.of_block (heap_setCell_other w ⟨b, j, none⟩ g v (by show ¬ g = b; omega)), fun i hi => by
    obtain ⟨b1, b2, g1, g2, h1, h2, r1, r2⟩ := h.2 i hi
    exact ⟨b1, b2, g1, g2, h1, h2, r1.set, r2.set⟩⟩

theorem Shell.kind0 {g : Nat} {f : Nat → Value} {ns : List Nd} {w : World} (h : Shell g f ns w) (i : Nat) (v : Value) : Shell g (fun j => if j = i * 4 then v else f j) ns (w.setCell ⟨g, i * 4, none⟩ v) :=
  ⟨h.1.set (i * 4) v, fun k hk => by
    obtain ⟨b1, b2, g1, g2, h1, h2, r1, r2⟩ := h.2 k hk
    refine ⟨b1, b2, g1, g2, ?_, ?_, r1.set, r2.set⟩
    · show (if k * 4 + 1 = i * 4 then v else f (k * 4 + 1)) = _
      rw [if_neg (by omega)]; exact h1
    · show (if k * 4 + 2 = i * 4 then v else f (k * 4 + 2)) = _
      rw [if_neg (by omega)]; exact h2⟩
/-- what Make answers: nothing, or the tight form -/
def mkL (ns : List Nd) : List Nd := if rightA ns = true then formA ns else []
theorem mkL_fine {ns : List Nd} (hf : Fine ns) : Fine (mkL ns) := by
  unfold mkL
  split
  · exact (form_right (by assumption) hf).2.2.2.2.1
  · exact fine_nil
theorem make_both (A : Option Addr) (n c : Nat) (ns : List Nd) (w : World) (hn : ns.length = n) (hnc : n ≤ c) (hf : Fine ns) (hi : (ws ns).i ≤ 1099999) (hns : Nodes w w.heap.size A ns) :
    Calls Try.prog 11 #[.slice A n c] w (fun e w' => Grow w w' ∧ ∃ A' r, e = .returned (.tuple #[.slice A' r r, .bool (rightA ns)]) ∧ (mkL ns).length = r ∧ Nodes w' w'.heap.size A' (mkL ns) ∧
      ∃ g f, 0 < r → A' = some ⟨g, 0, none⟩ ∧ w.heap.size ≤ g ∧ Shell g f (mkL ns) w') := by
  refine (make_any A n c ns w hn hnc hf hi hns).mono ?_
  rintro e w' ⟨hg, ⟨hr, rfl⟩ | ⟨hr, g, r, hgg, rfl, hl, hc⟩⟩
  · have e1 : mkL ns = [] := by unfold mkL; rw [hr]; rfl
    rw [hr, e1]
    exact ⟨hg, none, 0, rfl, rfl, Nodes.none_, 0, fun _ => undef, fun h => absurd h (Nat.lt_irrefl _)⟩
  · have e1 : mkL ns = formA ns := by unfold mkL; rw [if_pos hr]
    obtain ⟨f, hs⟩ := hc.shell
    rw [hr, e1]
    exact ⟨hg, _, r, rfl, hl, hc.nodes, g, f, fun _ => ⟨rfl, hgg, hs⟩⟩
theorem rmake_both (A : Option Addr) (n c : Nat) (ns : List Nd) (w : World) (hn : ns.length = n) (hnc : n ≤ c) (hf : Fine ns) (hns : Nodes w w.heap.size A ns) :
    Calls Try.prog 12 #[.slice A n c] w (fun e w' => Grow w w' ∧ ∃ A' r c', e = .returned (.tuple #[.slice A' r c', .bool (rightA ns)]) ∧ (mkL ns).length = r ∧ Nodes w' w'.heap.size A' (mkL ns)) := by
  refine (rmake_any A n c ns w hn hnc hf hns).mono ?_
  rintro e w' ⟨hg, ⟨hr, rfl⟩ | ⟨hr, A', r, c', rfl, hl, hc, hN⟩⟩
  · have e1 : mkL ns = [] := by unfold mkL; rw [hr]; rfl
    rw [hr, e1]
    exact ⟨hg, none, 0, 0, rfl, rfl, Nodes.none_⟩
  · have e1 : mkL ns = formA ns := by unfold mkL; rw [if_pos hr]
    rw [hr, e1]
    exact ⟨hg, _, r, _, rfl, hl, hN⟩
/-- what Numbers answers: the zero node, or the node of the numbers -/
def numQ (s : List Int) (l : List (Int × Int)) : Nd := (numO s l).getD nd0
theorem numQ_fit {s : List Int} {l : List (Int × Int)} (hl : l.length ≤ 1100000) (hi : ∀ x ∈ l, In x.1 ∧ In x.2) : Fit (numQ s l) := by
  unfold numQ numO
  split
  · next h => exact (least_one (n := ⟨0, s, [], []⟩) h.1 h.2.1 h.2.2 hi hl).2.2.2.1
  · exact fit0
theorem OneP.both {s : List Int} {l : List (Int × Int)} {T : Nat → Prop} {w w' : World} {e : Ending} (h : OneP T (numO s l) w e w') : Grow w w' ∧ ∃ B1 k1 B2 k2 B3 k3, e = .returned (.tuple #[.agg #[.int .i64 (numQ s l).kind, .slice B1 (numQ s l).shp.length k1, .slice B2 (numQ s l).ints.length k2, .slice B3 (numQ s l).decs.length k3], .bool (numO s l).isSome]) ∧ IsNd w' w'.heap.size B1 B2 B3 (numQ s l) := by
  unfold numQ
  cases hm : numO s l with
  | none =>
    rw [hm] at h
    obtain ⟨hg, rfl⟩ := h
    exact ⟨hg, none, 0, none, 0, none, 0, rfl, Nums.none_, Nums.none_, Decs.none_⟩
  | some m =>
    rw [hm] at h
    obtain ⟨hg, v, rfl, B1, k1, B2, k2, B3, k3, rfl, q1, q2, q3⟩ := h
    exact ⟨hg, B1, k1, B2, k2, B3, k3, rfl, q1.nums, q2.nums, q3.decs⟩
theorem one_both {m : Nd} (hf : Fit m) {l1 l2 l3 : Nat} (h1 : m.shp.length = l1) (h2 : m.ints.length = l2) (h3 : m.decs.length = l3) {k : Int} (hk : m.kind = k) (A1 A2 A3 : Option Addr) (c1 c2 c3 : Nat) (B1 B2 B3 : Option Addr) (d1 d2 d3 : Nat) (w : World) (hn : IsNd w w.heap.size A1 A2 A3 m) (hm : IsNd w w.heap.size B1 B2 B3 m) :
    Calls Try.prog 17 #[.agg #[.int .i64 k, .slice A1 l1 c1, .slice A2 l2 c2, .slice A3 l3 c3], .agg #[.int .i64 k, .slice B1 l1 d1, .slice B2 l2 d2, .slice B3 l3 d3]] w (Says true w) := by
  subst h1 h2 h3 hk
  have hc := rone_any m m A1 A2 A3 c1 c2 c3 B1 B2 B3 d1 d2 d3 w hf hf hn hm
  rw [decide_eq_true rfl] at hc
  exact hc

set_option maxRecDepth 10000 in
set_option maxHeartbeats 12800000 in
theorem tells_walk (A : Option Addr) (n c : Nat) (xs : List Nd) (S : Option Addr) (n1 c1 : Nat) (s : List Int) (L : Option Addr) (n2 c2 : Nat) (l : List (Int × Int)) (w : World) (hx : IsNodes w A n c xs)
    (hs : s.length = n1) (hs9 : n1 ≤ 9223372036854775807) (hsn : Nums .i64 w w.heap.size S s) (hl : l.length = n2) (hl9 : n2 ≤ 9223372036854775807) (hld : Decs w w.heap.size L l) (hli : ∀ x ∈ l, In x.1 ∧ In x.2) :
    Calls Try.prog 3 #[.slice A n c, .slice S n1 c1, .slice L n2 c2] w (Says true w) := by
  have HX := Lib.hid hx
  have HSN := Lib.hid hs
  have HSM := Lib.hid hsn
  have HLN := Lib.hid hl
  have HLD := Lib.hid hld
  have HLI := Lib.hid hli
  clear hx hs hsn hl hld hli
  go_enter Try.func3, Try.ntmps3
  go_wp2_with fail
  refine (small_any _).mono ?_
  rintro e w1 ⟨rfl, hg1⟩
  have HG1 := Lib.hid hg1
  clear hg1
  go_wp2_with fail
  refine (few_any A n c xs w _ HX.out HG1.out).mono ?_
  rintro e w2 ⟨rfl, hg2⟩
  have HG2 := Lib.hid (HG1.out.trans hg2)
  clear hg2 HG1
  cases hfx : fewB xs with
  | false =>
    go_wp2
    go_ret
    exact ⟨rfl, HG2.out⟩
  | true =>
    obtain ⟨hfine, hwi, hn100⟩ := few_fine HX.out hfx
    have HFX := Lib.hid hfine
    have HWI := Lib.hid hwi
    have HN := Lib.hid HX.out.1
    have HNA := Lib.hid (HX.out.2.2.2.1.grow HG2.out)
    have HS2 := Lib.hid (HSM.out.grow HG2.out)
    have HL2 := Lib.hid (HLD.out.grow HG2.out)
    have hnc : n ≤ c := HX.out.2.1
    have hn6 : n ≤ 1100000 := by omega
    clear HX hfx hfine hwi HSM HLD
    by_cases h30 : 30 < n1
    · have h30i : (30 : Int) < ((n1 : Nat) : Int) := by omega
      go_wp2
      go_ret
      exact ⟨rfl, HG2.out⟩
    have h30i : ¬ (30 : Int) < ((n1 : Nat) : Int) := by omega
    by_cases h100 : 100 < n2
    · have h100i : (100 : Int) < ((n2 : Nat) : Int) := by omega
      go_wp2
      go_ret
      exact ⟨rfl, HG2.out⟩
    have h100i : ¬ (100 : Int) < ((n2 : Nat) : Int) := by omega
    have h30m : n1 ≤ 1100000 := by omega
    have h100m : n2 ≤ 1100000 := by omega
    have HMF := Lib.hid (mkL_fine HFX.out)
    have HMK := Lib.hid (fun W h => make_both A n c xs W HN.out hnc HFX.out HWI.out h)
    have HRK := Lib.hid (fun W h => rmake_both A n c xs W HN.out hnc HFX.out h)
    have HTR := Lib.hid (fun W h => tright_any A n c xs W HN.out hnc HFX.out HWI.out h)
    have HRR := Lib.hid (fun W h => rtright_any A n c xs W HN.out hnc HFX.out h)
    obtain ⟨δ, hδ⟩ : ∃ δ, (rightA xs && decide (xs = formA xs)) = δ := ⟨_, rfl⟩
    rw [hδ] at HTR HRR
    clear hδ
    obtain ⟨β, hβ⟩ : ∃ β, rightA xs = β := ⟨_, rfl⟩
    rw [hβ] at HMK HRK
    clear hβ
    generalize mkL xs = ms at *
    obtain ⟨r, hr⟩ : ∃ r, ms.length = r := ⟨_, rfl⟩
    have HR := Lib.hid hr
    have hr6 : r ≤ 1100000 := by rw [← hr]; exact HMF.out.1
    rw [hr] at HMK HRK
    clear hr
    have HTN := Lib.hid (fun W h1 h2 => (tnumbers_any S n1 c1 s L n2 c2 l W HSN.out h30m h1 HLN.out h100m HLI.out h2).mono fun e w' h => OneP.both h)
    have HRN := Lib.hid (fun W h1 h2 => (rnumbers_any S n1 c1 s L n2 c2 l W HSN.out h30m h1 HLN.out h100m HLI.out h2).mono fun e w' h => OneP.both h)
    have HQF := Lib.hid (numQ_fit (s := s) (l := l) (by rw [HLN.out]; exact h100m) HLI.out)
    obtain ⟨γ, hγ⟩ : ∃ γ, (numO s l).isSome = γ := ⟨_, rfl⟩
    rw [hγ] at HTN HRN
    clear hγ
    generalize numQ s l = q at *
    obtain ⟨q1, hq1⟩ : ∃ q1, q.shp.length = q1 := ⟨_, rfl⟩
    obtain ⟨q2, hq2⟩ : ∃ q2, q.ints.length = q2 := ⟨_, rfl⟩
    obtain ⟨q3, hq3⟩ : ∃ q3, q.decs.length = q3 := ⟨_, rfl⟩
    obtain ⟨qk, hqk⟩ : ∃ qk, q.kind = qk := ⟨_, rfl⟩
    have HON := Lib.hid (fun A1 A2 A3 c1 c2 c3 B1 B2 B3 d1 d2 d3 W h1 h2 => one_both HQF.out hq1 hq2 hq3 hqk A1 A2 A3 c1 c2 c3 B1 B2 B3 d1 d2 d3 W h1 h2)
    rw [hq1, hq2, hq3, hqk] at HTN HRN
    clear hq1 hq2 hq3 hqk HQF
    go_wp2_with fail
    refine (HMK.out _ HNA.out).mono ?_
    rintro e w3 ⟨hg3, Ab, r', rfl, hl3, hn3, -⟩
    subst hl3
    have HG3 := Lib.hid (HG2.out.trans hg3)
    have HNA3 := Lib.hid (HNA.out.grow hg3)
    have HS3 := Lib.hid (HS2.out.grow hg3)
    have HL3 := Lib.hid (HL2.out.grow hg3)
    have HB3 := Lib.hid hn3
    clear hg3 hn3 HNA HS2 HL2 HG2
    go_wp2_with fail
    refine (HRK.out _ HNA3.out).mono ?_
    rintro e w4 ⟨hg4, Ad, r', cd, rfl, hl4, hn4⟩
    subst hl4
    have HG4 := Lib.hid (HG3.out.trans hg4)
    have HNA4 := Lib.hid (HNA3.out.grow hg4)
    have HS4 := Lib.hid (HS3.out.grow hg4)
    have HL4 := Lib.hid (HL3.out.grow hg4)
    have HB4 := Lib.hid (HB3.out.grow hg4)
    have HD4 := Lib.hid hn4
    clear hg4 hn4 HNA3 HS3 HL3 HG3 HB3
    go_wp2_with fail
    refine (HTN.out _ HS4.out HL4.out).mono ?_
    rintro e w5 ⟨hg5, F1, f1, F2, f2, F3, f3, rfl, hn5⟩
    have hnd5 := hn5.grow (grow_new w5 (.cells #[.int .i64 qk, .slice F1 q1 f1, .slice F2 q2 f2, .slice F3 q3 f3] 30))
    have hbx5 := boxN_new w5 qk F1 q1 f1 F2 q2 f2 F3 q3 f3
    have hgb5 := hg5.trans (grow_new w5 (.cells #[.int .i64 qk, .slice F1 q1 f1, .slice F2 q2 f2, .slice F3 q3 f3] 30))
    go_upto_region 8 with fail
    obtain ⟨bf, hbf⟩ : ∃ bf, w5.heap.size = bf := ⟨_, rfl⟩
    rw [hbf] at hbx5 ⊢
    generalize hw5 : w5.alloc (.cells #[.int .i64 qk, .slice F1 q1 f1, .slice F2 q2 f2, .slice F3 q3 f3] 30) = w5b at *
    have HG5 := Lib.hid (HG4.out.trans hgb5)
    have HNA5 := Lib.hid (HNA4.out.grow hgb5)
    have HS5 := Lib.hid (HS4.out.grow hgb5)
    have HL5 := Lib.hid (HL4.out.grow hgb5)
    have HB5 := Lib.hid (HB4.out.grow hgb5)
    have HD5 := Lib.hid (HD4.out.grow hgb5)
    have HFN5 := Lib.hid hnd5
    have HFB5 := Lib.hid hbx5
    clear hw5 hbf hgb5 hbx5 hnd5 hn5 hg5 HNA4 HS4 HL4 HG4 HB4 HD4 HTN
    go_wp2_with fail
    refine (HRN.out _ HS5.out HL5.out).mono ?_
    rintro e w6 ⟨hg6, E1, e1, E2, e2, E3, e3, rfl, hn6'⟩
    have hnd6 := hn6'.grow (grow_new w6 (.cells #[.int .i64 qk, .slice E1 q1 e1, .slice E2 q2 e2, .slice E3 q3 e3] 30))
    have hbx6 := boxN_new w6 qk E1 q1 e1 E2 q2 e2 E3 q3 e3
    have hgb6 := hg6.trans (grow_new w6 (.cells #[.int .i64 qk, .slice E1 q1 e1, .slice E2 q2 e2, .slice E3 q3 e3] 30))
    go_upto_region 9 with fail
    obtain ⟨bh, hbh⟩ : ∃ bh, w6.heap.size = bh := ⟨_, rfl⟩
    rw [hbh] at hbx6 ⊢
    generalize hw6 : w6.alloc (.cells #[.int .i64 qk, .slice E1 q1 e1, .slice E2 q2 e2, .slice E3 q3 e3] 30) = w6b at *
    have HG6 := Lib.hid (HG5.out.trans hgb6)
    have HNA6 := Lib.hid (HNA5.out.grow hgb6)
    have HB6 := Lib.hid (HB5.out.grow hgb6)
    have HD6 := Lib.hid (HD5.out.grow hgb6)
    have HFN6 := Lib.hid (HFN5.out.grow hgb6)
    have HFB6 := Lib.hid (HFB5.out.grow hgb6)
    have HHN6 := Lib.hid hnd6
    have HHB6 := Lib.hid hbx6
    clear hw6 hbh hgb6 hbx6 hnd6 hn6' hg6 HNA5 HS5 HL5 HG5 HB5 HD5 HFN5 HFB5 HRN
    go_wp2_with fail
    refine (rcopy_any A n c xs _ HN.out hn6 HFX.out.2.1 HNA6.out).mono ?_
    rintro e w7 ⟨Ak, ck, rfl, -, hk7, hg7⟩
    rw [HN.out]
    have HG7 := Lib.hid (HG6.out.trans hg7)
    have HNA7 := Lib.hid (HNA6.out.grow hg7)
    have HB7 := Lib.hid (HB6.out.grow hg7)
    have HD7 := Lib.hid (HD6.out.grow hg7)
    have HFN7 := Lib.hid (HFN6.out.grow hg7)
    have HFB7 := Lib.hid (HFB6.out.grow hg7)
    have HHN7 := Lib.hid (HHN6.out.grow hg7)
    have HHB7 := Lib.hid (HHB6.out.grow hg7)
    have HK7 := Lib.hid hk7.nodes
    clear hk7 hg7 HNA6 HG6 HB6 HD6 HFN6 HFB6 HHN6 HHB6
    go_wp2_with fail
    refine (HMK.out _ HNA7.out).mono ?_
    rintro e w8 ⟨hg8, Ax, r', rfl, hl8, -, gc, f0, hsh⟩
    subst hl8
    have HG8 := Lib.hid hg8
    have HSH := Lib.hid hsh
    clear hg8 hsh HMK
    go_wp2
    go_loopg [20] r (fun g s20 wq => ∃ (i : Nat) (f : Nat → Value), i ≤ r ∧ g = r - i ∧ s20 = .int .i64 i ∧ Hid (0 < r → Ax = some ⟨gc, 0, none⟩ ∧ w7.heap.size ≤ gc ∧ Shell gc f ms wq) ∧ Hid (Grow w7 wq))
    case atStart => exact ⟨0, f0, Nat.zero_le _, rfl, rfl, HSH, HG8⟩
    case round =>
      clear HSH HG8
      obtain ⟨i, f, hi, rfl, rfl, HSH, HGQ⟩ := hrel
      by_cases hlt : i < r
      · have hlti : ((i : Nat) : Int) < ((r : Nat) : Int) := by omega
        have hil : i < ms.length := by rw [HR.out]; exact hlt
        obtain ⟨rfl, hgc, hsh⟩ := HSH.out (by omega)
        have HS := Lib.hid hsh
        have HGC := Lib.hid hgc
        obtain ⟨b1, b2, g1, g2, k1, k2, r1, r2⟩ := hsh.2 i hil
        have hfi := HMF.out.2.1.at_ i
        obtain ⟨L1, hL1⟩ : ∃ L1, (ms.getD i nd0).shp.length = L1 := ⟨_, rfl⟩
        obtain ⟨L2, hL2⟩ : ∃ L2, (ms.getD i nd0).ints.length = L2 := ⟨_, rfl⟩
        rw [hL1] at k1 r1
        rw [hL2] at k2 r2
        have hl1 : L1 ≤ 1100000 := by rw [← hL1]; exact hfi.2.1
        have hl2 : L2 ≤ 1100000 := by rw [← hL2]; exact hfi.2.2.1
        have HE1 := Lib.hid k1
        have HE2 := Lib.hid k2
        have HR1 := Lib.hid r1
        have HR2 := Lib.hid r2
        have HB1 := Lib.hid g1
        have HB2 := Lib.hid g2
        have HIL : Hid (i * 4 + 2 < ms.length * 4) := Lib.hid (by omega)
        clear hsh hgc k1 k2 r1 r2 hL1 hL2 hfi g1 g2 hil HSH
        go_wp2
        go_loopg [21] L2 (fun g s21 wq => ∃ j : Nat, j ≤ L2 ∧ g = L2 - j ∧ s21 = .int .i64 j ∧ Hid (Shell gc f ms wq) ∧ Hid (Grow w7 wq) ∧ Hid (RowOf wq b1 L1) ∧ Hid (RowOf wq b2 L2))
        case atStart => exact ⟨0, Nat.zero_le _, rfl, rfl, HS, HGQ, HR1, HR2⟩
        case round =>
          obtain ⟨j, hj, rfl, rfl, HS2, HGQ2, HR1, HR2⟩ := hrel
          have c2 := (HS2.out.1.cell (i := i * 4 + 2) HIL.out).trans (congrArg some HE2.out)
          by_cases hjl : j < L2
          · have hjli : ((j : Nat) : Int) < ((L2 : Nat) : Int) := by omega
            obtain ⟨v0, hv0⟩ := HR2.out.at_ hjl
            have fz := HR2.out.froz j
            have HS3 := Lib.hid (HS2.out.set (j := j) HB2.out (.int .i64 77))
            have HGQ3 := Lib.hid (HGQ2.out.put (b := b2) (Nat.le_trans HGC.out (Nat.le_of_lt HB2.out)) j (.int .i64 77))
            have HR13 := Lib.hid (HR1.out.set (b' := b2) (j := j) (v := .int .i64 77))
            have HR23 := Lib.hid (HR2.out.set (b' := b2) (j := j) (v := .int .i64 77))
            go_wp2
            go_roundg (L2 - (j + 1))
            case rel => exact ⟨j + 1, by omega, rfl, by go_num, HS3, HGQ3, HR13, HR23⟩
            case measure => omega
          · obtain rfl : L2 = j := by omega
            have hll : ¬ ((L2 : Nat) : Int) < ((L2 : Nat) : Int) := by omega
            go_wp2
            clear c2
            go_loopg [22] L1 (fun g s22 wq => ∃ j : Nat, j ≤ L1 ∧ g = L1 - j ∧ s22 = .int .i64 j ∧ Hid (Shell gc f ms wq) ∧ Hid (Grow w7 wq) ∧ Hid (RowOf wq b1 L1))
            case atStart => exact ⟨0, Nat.zero_le _, rfl, rfl, HS2, HGQ2, HR1⟩
            case round =>
              obtain ⟨j, hj, rfl, rfl, HS4, HGQ4, HR4⟩ := hrel
              have c1 := (HS4.out.1.cell (i := i * 4 + 1) (by have := HIL.out; omega)).trans (congrArg some HE1.out)
              by_cases hjl : j < L1
              · have hjli : ((j : Nat) : Int) < ((L1 : Nat) : Int) := by omega
                obtain ⟨v0, hv0⟩ := HR4.out.at_ hjl
                have fz := HR4.out.froz j
                have HS5 := Lib.hid (HS4.out.set (j := j) HB1.out (.int .i64 77))
                have HGQ5 := Lib.hid (HGQ4.out.put (b := b1) (Nat.le_trans HGC.out (Nat.le_of_lt HB1.out)) j (.int .i64 77))
                have HR5 := Lib.hid (HR4.out.set (b' := b1) (j := j) (v := .int .i64 77))
                go_wp2
                go_roundg (L1 - (j + 1))
                case rel => exact ⟨j + 1, by omega, rfl, by go_num, HS5, HGQ5, HR5⟩
                case measure => omega
              · obtain rfl : L1 = j := by omega
                have hll : ¬ ((L1 : Nat) : Int) < ((L1 : Nat) : Int) := by omega
                have c0 := HS4.out.1.cell (i := i * 4) (by have := HIL.out; omega)
                have fz := HS4.out.1.frozen (i * 4)
                have HS6 := Lib.hid (HS4.out.kind0 i (.int .i64 0))
                have HGQ6 := Lib.hid (HGQ4.out.put (b := gc) HGC.out (i * 4) (.int .i64 0))
                go_wp2
                go_roundg (r - (i + 1))
                case rel => exact ⟨i + 1, _, by omega, rfl, by go_num, Lib.hid fun _ => ⟨by first | rfl | trivial, HGC.out, HS6.out⟩, HGQ6⟩
                case measure => omega
      · obtain rfl : r = i := by omega
        have hrr : ¬ ((r : Nat) : Int) < ((r : Nat) : Int) := by omega
        obtain ⟨w9, h9⟩ : ∃ w9, w9 = wr := ⟨_, rfl⟩
        subst h9
        have HGA := Lib.hid (HG7.out.trans HGQ.out)
        have HN9 := Lib.hid (HNA7.out.grow HGQ.out)
        have HB9 := Lib.hid (HB7.out.grow HGQ.out)
        have HD9 := Lib.hid (HD7.out.grow HGQ.out)
        have HFN9 := Lib.hid (HFN7.out.grow HGQ.out)
        have HFB9 := Lib.hid (HFB7.out.grow HGQ.out)
        have HHN9 := Lib.hid (HHN7.out.grow HGQ.out)
        have HHB9 := Lib.hid (HHB7.out.grow HGQ.out)
        have HK9 := Lib.hid (HK7.out.grow HGQ.out)
        clear HSH HGQ HG7 HNA7 HB7 HD7 HFN7 HFB7 HHN7 HHB7 HK7
        have bβ : (β == β) = true := by simp
        have bγ : (γ == γ) = true := by simp
        have bδ : (δ == δ) = true := by simp
        have HS1 := Lib.hid (fun W h1 h2 => rsameN_any A Ak n n c ck xs xs W HN.out HN.out hn6 hn6 HFX.out.2.1 HFX.out.2.1 h1 h2)
        have HS2 := Lib.hid (fun W h1 h2 => rsameN_any Ab Ad r r r cd ms ms W HR.out HR.out hr6 hr6 HMF.out.2.1 HMF.out.2.1 h1 h2)
        rw [decide_eq_true rfl] at HS1 HS2
        go_wp2_with fail
        refine (HS1.out _ HN9.out HK9.out).mono ?_
        rintro e wa ⟨rfl, hg⟩
        have HGA1 := Lib.hid (HGA.out.trans hg)
        have HNa := Lib.hid (HN9.out.grow hg)
        have HBa := Lib.hid (HB9.out.grow hg)
        have HDa := Lib.hid (HD9.out.grow hg)
        have HFNa := Lib.hid (HFN9.out.grow hg)
        have HFBa := Lib.hid (HFB9.out.grow hg)
        have HHNa := Lib.hid (HHN9.out.grow hg)
        have HHBa := Lib.hid (HHB9.out.grow hg)
        clear hg HGA HN9 HB9 HD9 HFN9 HFB9 HHN9 HHB9 HK9 HS1
        go_wp2_with fail
        refine (HS2.out _ HBa.out HDa.out).mono ?_
        rintro e wb ⟨rfl, hg⟩
        have HGA2 := Lib.hid (HGA1.out.trans hg)
        have HNb := Lib.hid (HNa.out.grow hg)
        have HFNb := Lib.hid (HFNa.out.grow hg)
        have HFBb := Lib.hid (HFBa.out.grow hg)
        have HHNb := Lib.hid (HHNa.out.grow hg)
        have HHBb := Lib.hid (HHBa.out.grow hg)
        have f0' := HFBb.out.at0
        have f1' := HFBb.out.at1
        have f2' := HFBb.out.at2
        have f3' := HFBb.out.at3
        have h0' := HHBb.out.at0
        have h1' := HHBb.out.at1
        have h2' := HHBb.out.at2
        have h3' := HHBb.out.at3
        clear hg HGA1 HNa HBa HDa HFNa HFBa HHNa HHBa HS2
        go_wp2_with fail
        refine (HON.out F1 F2 F3 f1 f2 f3 E1 E2 E3 e1 e2 e3 _ HFNb.out HHNb.out).mono ?_
        rintro e wc ⟨rfl, hg⟩
        have HGA3 := Lib.hid (HGA2.out.trans hg)
        have HNc := Lib.hid (HNb.out.grow hg)
        clear hg HGA2 HNb HFNb HFBb HHNb HHBb f0' f1' f2' f3' h0' h1' h2' h3' HON
        go_wp2_with fail
        refine (HTR.out _ HNc.out).mono ?_
        rintro e wd ⟨rfl, hg⟩
        have HGA4 := Lib.hid (HGA3.out.trans hg)
        have HNd := Lib.hid (HNc.out.grow hg)
        clear hg HGA3 HNc HTR
        go_wp2_with fail
        refine (HRR.out _ HNd.out).mono ?_
        rintro e we ⟨rfl, hg⟩
        have HGA5 := Lib.hid (HGA4.out.trans hg)
        clear hg HGA4 HNd HRR
        go_wp2
        go_ret
        exact ⟨rfl, HGA5.out⟩
end Go.Proofs.Ytcljpcbgokgcdaa
