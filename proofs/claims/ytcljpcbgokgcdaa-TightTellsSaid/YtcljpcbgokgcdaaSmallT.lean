/-
  The small case: what it says of lists, and the calls in it.
-/
import Derived.Test.YtcljpcbgokgcdaaNumbs
import Derived.Test.YtcljpcbgokgcdaaSamesA
import Derived.Test.YtcljpcbgokgcdaaPreA
namespace Go.Proofs.Ytcljpcbgokgcdaa
open Go.RowKit Go.Lib
set_option linter.unusedSimpArgs false
set_option linter.unusedVariables false

def bx : Nd := ⟨5, [2], [], []⟩
def ch : Nd := ⟨3, [], [97], []⟩
def y1 : List Nd := [bx, nd1 3, nd1 1]
def y2 : List Nd := [bx, nd1 0, nd1 1]
def y3 : List Nd := [bx, ch, nd1 1]
def y4 : List Nd := [⟨5, [0], [], []⟩]
def y5 : List Nd := [⟨5, [], [], []⟩, ⟨4, [], [], [(2, 0)]⟩]
def z1 : List Nd := [⟨2, [2], [3, 1], []⟩]
def z2 : List Nd := [⟨1, [2], [0, 1], []⟩]
def z3 : List Nd := [bx, ch, ⟨1, [], [1], []⟩]
def z4 : List Nd := [⟨2, [0], [], []⟩]
def z5 : List Nd := [⟨2, [], [2], []⟩]
def m7 : Nd := ⟨4, [1], [], [(15, -1)]⟩
theorem fy1 : rightA y1 = true ∧ formA y1 = z1 ∧ (ws y1).i ≤ 1099999 := by decide +kernel
theorem fy2 : rightA y2 = true ∧ formA y2 = z2 ∧ (ws y2).i ≤ 1099999 := by decide +kernel
theorem fy3 : rightA y3 = true ∧ formA y3 = z3 ∧ (ws y3).i ≤ 1099999 := by decide +kernel
theorem fy4 : rightA y4 = true ∧ formA y4 = z4 ∧ (ws y4).i ≤ 1099999 := by decide +kernel
theorem fy5 : rightA y5 = true ∧ formA y5 = z5 ∧ (ws y5).i ≤ 1099999 := by decide +kernel
theorem fy6 : rightA [] = false := by decide +kernel
theorem fy7 : numO [1] [(15, -1)] = some m7 := by decide +kernel
theorem fy8 : numO [2] [(1, 0)] = none := by decide +kernel
theorem fy9 : (rightA z1 && decide (z1 = formA z1)) = true := by decide +kernel
theorem fy10 : (rightA [nd1 1] && decide ([nd1 1] = formA [nd1 1])) = false := by decide +kernel
theorem fy11 : (rightA [ch] && decide ([ch] = formA [ch])) = true := by decide +kernel
theorem fi1 : (ws z1).i ≤ 1099999 ∧ (ws [nd1 1]).i ≤ 1099999 ∧ (ws [ch]).i ≤ 1099999 := by decide +kernel

instance (n : Int) : Decidable (In n) := by unfold In; exact inferInstance
theorem fine_of {ns : List Nd} (h1 : ns.length ≤ 1100000) (h2 : ∀ n ∈ ns, (In n.kind ∧ n.shp.length ≤ 1100000 ∧ n.ints.length ≤ 1100000 ∧ n.decs.length ≤ 1100000) ∧ (∀ x ∈ n.decs, In x.1 ∧ In x.2) ∧ ∀ x ∈ n.ints, In x) : Fine ns :=
  ⟨h1, fun n hn => ⟨(h2 n hn).1.1, (h2 n hn).1.2.1, (h2 n hn).1.2.2.1, (h2 n hn).1.2.2.2, (h2 n hn).2.1⟩, fun n hn => (h2 n hn).2.2⟩
theorem gy1 : Fine y1 := fine_of (by decide) (by decide)
theorem gy2 : Fine y2 := fine_of (by decide) (by decide)
theorem gy3 : Fine y3 := fine_of (by decide) (by decide)
theorem gy4 : Fine y4 := fine_of (by decide) (by decide)
theorem gy5 : Fine y5 := fine_of (by decide) (by decide)
theorem gz1 : Fine z1 := fine_of (by decide) (by decide)
theorem gz2 : Fine z2 := fine_of (by decide) (by decide)
theorem gz3 : Fine z3 := fine_of (by decide) (by decide)
theorem gz4 : Fine z4 := fine_of (by decide) (by decide)
theorem gz5 : Fine z5 := fine_of (by decide) (by decide)
theorem gn1 : Fine [nd1 1] := fine_of (by decide) (by decide)
theorem gch : Fine [ch] := fine_of (by decide) (by decide)
theorem gm7 : Fit m7 := (fine_of (ns := [m7]) (by decide) (by decide)).2.1 m7 (by simp)

theorem raw1 {w : World} {B : Nat} {A1 A2 A3 : Option Addr} {l1 c1 l2 c2 l3 c3 : Nat} {k : Int} {n : Nd} (hk : n.kind = k) (h1 : n.shp.length = l1) (h2 : n.ints.length = l2) (h3 : n.decs.length = l3) (h : IsNd w B A1 A2 A3 n) :
    RawN w B [.int .i64 k, .slice A1 l1 c1, .slice A2 l2 c2, .slice A3 l3 c3] [n] := by
  subst hk h1 h2 h3
  refine ⟨rfl, fun i hi => ?_⟩
  obtain rfl : i = 0 := by simpa using hi
  exact ⟨A1, c1, A2, c2, A3, c3, rfl, rfl, rfl, rfl, h⟩
theorem lit_nodes {w : World} {vals : List Value} {ns : List Nd} (h : RawN w w.heap.size vals ns) : Nodes (w.alloc (.cells vals.toArray 30)) (w.alloc (.cells vals.toArray 30)).heap.size (some ⟨w.heap.size, 0, none⟩) ns := fun hp => by
  have hg := grow_new w (.cells vals.toArray 30)
  have hn := heap_alloc_new w (.cells vals.toArray 30)
  refine ⟨w.heap.size, 0, rfl, by simp, fun i hi => ?_⟩
  obtain ⟨A1, c1, A2, c2, A3, c3, h0, h1, h2, h3, h4⟩ := h.2 i hi
  have cell : ∀ j v, vals[j]? = some v → (w.alloc (.cells vals.toArray 30)).cell? ⟨w.heap.size, j, none⟩ = some v := fun j v hv => by
    rw [cell_of_row _ w.heap.size j _ _ (0, 0) hn, List.getElem?_toArray]
    exact hv
  rw [Nat.zero_add]
  exact ⟨A1, c1, A2, c2, A3, c3, cell _ _ h0, cell _ _ h1, cell _ _ h2, cell _ _ h3, h4.grow hg⟩

theorem lit3 {w : World} {n1 n2 n3 : Nd} (u1 u2 u3 : List Value) (h1 : RawN w w.heap.size u1 [n1]) (h2 : RawN w w.heap.size u2 [n2]) (h3 : RawN w w.heap.size u3 [n3]) :
    Nodes (w.alloc (.cells (u1 ++ (u2 ++ u3)).toArray 30)) (w.alloc (.cells (u1 ++ (u2 ++ u3)).toArray 30)).heap.size (some ⟨w.heap.size, 0, none⟩) [n1, n2, n3] := lit_nodes (h1.app (h2.app h3))
theorem lit2 {w : World} {n1 n2 : Nd} (u1 u2 : List Value) (h1 : RawN w w.heap.size u1 [n1]) (h2 : RawN w w.heap.size u2 [n2]) :
    Nodes (w.alloc (.cells (u1 ++ u2).toArray 30)) (w.alloc (.cells (u1 ++ u2).toArray 30)).heap.size (some ⟨w.heap.size, 0, none⟩) [n1, n2] := lit_nodes (h1.app h2)

def OneV (v : Int) (w : World) (e : Ending) (w' : World) : Prop := ∃ b, e = .returned (.agg #[.int .i64 2, .slice none 0 0, .slice (some ⟨b, 0, none⟩) 1 1, .slice none 0 0]) ∧ IsNd w' w'.heap.size none (some ⟨b, 0, none⟩) none (nd1 v) ∧ Grow w w'
theorem tone_any (v : Int) (w : World) : Calls Try.prog 26 #[.int .i64 v] w (OneV v w) := by
  obtain ⟨z, hz⟩ : ∃ z, w.heap.size = z := ⟨_, rfl⟩
  have hb0 := boxN_new w 2 none 0 0 (some ⟨z + 1, 0, none⟩) 1 1 none 0 0
  rw [hz] at hb0
  have hg0 := grow_new w (.cells #[.int .i64 2, .slice none 0 0, .slice (some ⟨z + 1, 0, none⟩) 1 1, .slice none 0 0] 30)
  have hs0 : (w.alloc (.cells #[.int .i64 2, .slice none 0 0, .slice (some ⟨z + 1, 0, none⟩) 1 1, .slice none 0 0] 30)).heap.size = z + 1 := by simp [hz]
  have hn := nums_lit (w.alloc (.cells #[.int .i64 2, .slice none 0 0, .slice (some ⟨z + 1, 0, none⟩) 1 1, .slice none 0 0] 30)) [v]
  have hg1 := grow_new (w.alloc (.cells #[.int .i64 2, .slice none 0 0, .slice (some ⟨z + 1, 0, none⟩) 1 1, .slice none 0 0] 30)) (.cells #[.int .i64 v] 3)
  rw [hs0] at hn
  have HN := Lib.hid hn
  have HG := Lib.hid (hg0.trans hg1)
  have HB := Lib.hid (hb0.grow hg1)
  clear hb0 hg0 hn hg1 hs0
  go_enter Try.func26, Try.ntmps26
  go_wp2
  have hb := HB.out
  refine bodyPost_ret (v := .agg #[.int .i64 2, .slice none 0 0, .slice (some ⟨z + 1, 0, none⟩) 1 1, .slice none 0 0]) (by simp [results, Try.results26, go_sem, hb.at0, hb.at1, hb.at2, hb.at3]) rfl ?_
  exact ⟨z + 1, rfl, ⟨Nums.none_, HN.out, Decs.none_⟩, HG.out⟩

def Yes (r : Nat) (F : List Nd) (w : World) (e : Ending) (w' : World) : Prop := ∃ g, e = .returned (.tuple #[.slice (some ⟨g, 0, none⟩) r r, .bool true]) ∧ Nodes w' w'.heap.size (some ⟨g, 0, none⟩) F ∧ Grow w w'
theorem makes_yes {ns F : List Nd} {r : Nat} (h : rightA ns = true ∧ formA ns = F ∧ (ws ns).i ≤ 1099999) (hl : F.length = r) (hf : Fine ns) (A : Option Addr) (n c : Nat) (w : World) (hn : ns.length = n) (hnc : n ≤ c) (hns : Nodes w w.heap.size A ns) :
    Calls Try.prog 11 #[.slice A n c] w (Yes r F w) := by
  refine (make_any A n c ns w hn hnc hf h.2.2 hns).mono ?_
  rintro e w' ⟨hg, ⟨h1, _⟩ | ⟨_, g, r', _, rfl, hr, hc⟩⟩
  · rw [h.1] at h1; cases h1
  · rw [h.2.1] at hr hc
    rw [hl] at hr
    subst hr
    exact ⟨g, rfl, hc.nodes, hg⟩
theorem makes_no {ns : List Nd} (h : rightA ns = false) (hf : Fine ns) (A : Option Addr) (n c : Nat) (w : World) (hn : ns.length = n) (hnc : n ≤ c) (hns : Nodes w w.heap.size A ns) :
    Calls Try.prog 11 #[.slice A n c] w (fun e w' => e = .returned (.tuple #[.slice none 0 0, .bool false]) ∧ Grow w w') := by
  refine (make_any A n c ns w hn hnc hf (by rw [ws_none (right_no h)]; decide) hns).mono ?_
  rintro e w' ⟨hg, ⟨_, rfl⟩ | ⟨h1, _⟩⟩
  · exact ⟨rfl, hg⟩
  · rw [h] at h1; cases h1
theorem tnum_seven (A A' : Option Addr) (w : World) (hs : Nums .i64 w w.heap.size A [1]) (hd : Decs w w.heap.size A' [(15, -1)]) :
    Calls Try.prog 13 #[.slice A 1 1, .slice A' 1 1] w (fun e w' => ∃ B1 k1 B2 k2 B3 k3, e = .returned (.tuple #[.agg #[.int .i64 4, .slice B1 1 k1, .slice B2 0 k2, .slice B3 1 k3], .bool true]) ∧ IsNd w' w'.heap.size B1 B2 B3 m7 ∧ Grow w w') := by
  refine (tnumbers_any A 1 1 [1] A' 1 1 [(15, -1)] w rfl (by decide) hs rfl (by decide) (by decide) hd).mono ?_
  rw [fy7]
  rintro e w' ⟨hg, v, rfl, B1, k1, B2, k2, B3, k3, rfl, h1, h2, h3⟩
  exact ⟨B1, k1, B2, k2, B3, k3, rfl, ⟨h1.nums, h2.nums, h3.decs⟩, hg⟩
theorem tnum_eight (A A' : Option Addr) (w : World) (hs : Nums .i64 w w.heap.size A [2]) (hd : Decs w w.heap.size A' [(1, 0)]) :
    Calls Try.prog 13 #[.slice A 1 1, .slice A' 1 1] w (fun e w' => e = .returned (.tuple #[.agg #[.int .i64 0, .slice none 0 0, .slice none 0 0, .slice none 0 0], .bool false]) ∧ Grow w w') := by
  refine (tnumbers_any A 1 1 [2] A' 1 1 [(1, 0)] w rfl (by decide) hs rfl (by decide) (by decide) hd).mono ?_
  rw [fy8]
  rintro e w' ⟨hg, h⟩
  exact ⟨h, hg⟩
theorem trights {ns : List Nd} {β : Bool} (h : (rightA ns && decide (ns = formA ns)) = β) (hi : (ws ns).i ≤ 1099999) (hf : Fine ns) (A : Option Addr) (n c : Nat) (w : World) (hn : ns.length = n) (hnc : n ≤ c) (hns : Nodes w w.heap.size A ns) :
    Calls Try.prog 18 #[.slice A n c] w (Says β w) := by
  have hc := tright_any A n c ns w hn hnc hf hi hns
  rw [h] at hc
  exact hc
theorem rsames {xs ys : List Nd} {β : Bool} (h : decide (xs = ys) = β) (hf : Fine xs) (hf' : Fine ys) (A A' : Option Addr) (n n' cap cap' : Nat) (w : World) (hn : xs.length = n) (hn' : ys.length = n') (hr : Nodes w w.heap.size A xs) (hr' : Nodes w w.heap.size A' ys) :
    Calls Try.prog 16 #[.slice A n cap, .slice A' n' cap'] w (Says β w) := by
  have hc := rsameN_any A A' n n' cap cap' xs ys w hn hn' (by rw [← hn]; exact hf.1) (by rw [← hn']; exact hf'.1) hf.2.1 hf'.2.1 hr hr'
  rw [h] at hc
  exact hc
theorem litSI (v : World) (k : Int) (xs ys : List Int) :
    Nodes (((v.alloc (.cells (ivs xs).toArray 3)).alloc (.cells (ivs ys).toArray 3)).alloc (.cells #[.int .i64 k, .slice (some ⟨v.heap.size, 0, none⟩) xs.length xs.length, .slice (some ⟨v.heap.size + 1, 0, none⟩) ys.length ys.length, .slice none 0 0] 30))
      (((v.alloc (.cells (ivs xs).toArray 3)).alloc (.cells (ivs ys).toArray 3)).alloc (.cells #[.int .i64 k, .slice (some ⟨v.heap.size, 0, none⟩) xs.length xs.length, .slice (some ⟨v.heap.size + 1, 0, none⟩) ys.length ys.length, .slice none 0 0] 30)).heap.size (some ⟨v.heap.size + 1 + 1, 0, none⟩) [⟨k, xs, ys, []⟩] := by
  have h1 := Nums.grow (nums_lit v xs) (grow_new _ (.cells (ivs ys).toArray 3))
  have h2 := nums_lit (v.alloc (.cells (ivs xs).toArray 3)) ys
  rw [show (v.alloc (.cells (ivs xs).toArray 3)).heap.size = v.heap.size + 1 by simp] at h2
  have h := node_lit ((v.alloc (.cells (ivs xs).toArray 3)).alloc (.cells (ivs ys).toArray 3)) k (some ⟨v.heap.size, 0, none⟩) xs.length xs.length (some ⟨v.heap.size + 1, 0, none⟩) ys.length ys.length none 0 0 ⟨k, xs, ys, []⟩ rfl rfl rfl rfl ⟨h1, h2, Decs.none_⟩
  rw [show ((v.alloc (.cells (ivs xs).toArray 3)).alloc (.cells (ivs ys).toArray 3)).heap.size = v.heap.size + 1 + 1 by simp] at h
  exact h
theorem litS (v : World) (k : Int) (xs : List Int) :
    Nodes ((v.alloc (.cells (ivs xs).toArray 3)).alloc (.cells #[.int .i64 k, .slice (some ⟨v.heap.size, 0, none⟩) xs.length xs.length, .slice none 0 0, .slice none 0 0] 30))
      ((v.alloc (.cells (ivs xs).toArray 3)).alloc (.cells #[.int .i64 k, .slice (some ⟨v.heap.size, 0, none⟩) xs.length xs.length, .slice none 0 0, .slice none 0 0] 30)).heap.size (some ⟨v.heap.size + 1, 0, none⟩) [⟨k, xs, [], []⟩] := by
  have h := node_lit (v.alloc (.cells (ivs xs).toArray 3)) k (some ⟨v.heap.size, 0, none⟩) xs.length xs.length none 0 0 none 0 0 ⟨k, xs, [], []⟩ rfl rfl rfl rfl ⟨nums_lit v xs, Nums.none_, Decs.none_⟩
  rw [show (v.alloc (.cells (ivs xs).toArray 3)).heap.size = v.heap.size + 1 by simp] at h
  exact h
theorem litI (v : World) (k : Int) (xs : List Int) :
    Nodes ((v.alloc (.cells (ivs xs).toArray 3)).alloc (.cells #[.int .i64 k, .slice none 0 0, .slice (some ⟨v.heap.size, 0, none⟩) xs.length xs.length, .slice none 0 0] 30))
      ((v.alloc (.cells (ivs xs).toArray 3)).alloc (.cells #[.int .i64 k, .slice none 0 0, .slice (some ⟨v.heap.size, 0, none⟩) xs.length xs.length, .slice none 0 0] 30)).heap.size (some ⟨v.heap.size + 1, 0, none⟩) [⟨k, [], xs, []⟩] := by
  have h := node_lit (v.alloc (.cells (ivs xs).toArray 3)) k none 0 0 (some ⟨v.heap.size, 0, none⟩) xs.length xs.length none 0 0 ⟨k, [], xs, []⟩ rfl rfl rfl rfl ⟨Nums.none_, nums_lit v xs, Decs.none_⟩
  rw [show (v.alloc (.cells (ivs xs).toArray 3)).heap.size = v.heap.size + 1 by simp] at h
  exact h
theorem one_seven (B1 : Option Addr) (k1 : Nat) (B2 : Option Addr) (k2 : Nat) (B3 : Option Addr) (k3 : Nat) (x y : Nat) (w : World) (h : IsNd w w.heap.size B1 B2 B3 m7) (h1 : Nums .i64 w w.heap.size (some ⟨x, 0, none⟩) [1]) (h2 : Decs w w.heap.size (some ⟨y, 0, none⟩) [(15, -1)]) :
    Calls Try.prog 17 #[.agg #[.int .i64 4, .slice B1 1 k1, .slice B2 0 k2, .slice B3 1 k3], .agg #[.int .i64 4, .slice (some ⟨x, 0, none⟩) 1 1, .slice none 0 0, .slice (some ⟨y, 0, none⟩) 1 1]] w (Says true w) := by
  have hc := rone_any m7 m7 B1 B2 B3 k1 k2 k3 (some ⟨x, 0, none⟩) none (some ⟨y, 0, none⟩) 1 0 1 w gm7 gm7 h ⟨h1, Nums.none_, h2⟩
  rw [decide_eq_true rfl] at hc
  exact hc
end Go.Proofs.Ytcljpcbgokgcdaa
