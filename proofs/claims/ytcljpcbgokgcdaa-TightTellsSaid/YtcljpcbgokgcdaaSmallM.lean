/-
  The small case: what it says of lists, and the calls in it.
-/
import Derived.Test.YtcljpcbgokgcdaaNest
import Derived.Test.YtcljpcbgokgcdaaKids
import Derived.Test.YtcljpcbgokgcdaaSamesA
namespace Go.Proofs.Ytcljpcbgokgcdaa
open Go.RowKit Go.Lib
set_option linter.unusedSimpArgs false
set_option linter.unusedVariables false

theorem nest_yes {sh : List Int} {ks : List (List Nd)} {N : Nat} (hb : nestB sh ks = true) (hN : 1 + (flatK ks).length = N) (A1 : Option Addr) (l1 c1 : Nat) (A : Option Addr) (n c : Nat) (w : World) (hsl : sh.length = l1) (hs1 : l1 ≤ 1100000) (hsh : Nums .i64 w w.heap.size A1 sh)
    (hn : ks.length = n) (hnb : n ≤ 9223372036854775807) (hf : FitK ks) (hT : N ≤ 1100000) (hks : KidsAt w w.heap.size A ks) :
    Calls Try.prog 23 #[.slice A1 l1 c1, .slice A n c] w (fun e w' => ∃ g, w.heap.size ≤ g ∧ e = .returned (.tuple #[.slice (some ⟨g, 0, none⟩) N N, .bool true]) ∧ Grow w w' ∧ Copied w' g (nest5 sh :: flatK ks)) := by
  refine (nest_any A1 l1 c1 sh A n c ks w hsl hs1 hsh hn hnb hf (by omega) hks).mono ?_
  rintro e w' ⟨hg, ⟨h, _⟩ | ⟨_, g, h1, h2, h3⟩⟩
  · rw [hb] at h; cases h
  · exact ⟨g, h1, by rw [h2, hN], hg, h3⟩
theorem nest_no {sh : List Int} {ks : List (List Nd)} (hb : nestB sh ks = false) (A1 : Option Addr) (l1 c1 : Nat) (A : Option Addr) (n c : Nat) (w : World) (hsl : sh.length = l1) (hs1 : l1 ≤ 1100000) (hsh : Nums .i64 w w.heap.size A1 sh)
    (hn : ks.length = n) (hnb : n ≤ 9223372036854775807) (hf : FitK ks) (hT : (flatK ks).length ≤ 1099999) (hks : KidsAt w w.heap.size A ks) :
    Calls Try.prog 23 #[.slice A1 l1 c1, .slice A n c] w (fun e w' => e = .returned (.tuple #[.slice none 0 0, .bool false]) ∧ Grow w w') := by
  refine (nest_any A1 l1 c1 sh A n c ks w hsl hs1 hsh hn hnb hf hT hks).mono ?_
  rintro e w' ⟨hg, ⟨_, h⟩ | ⟨h, _⟩⟩
  · exact ⟨h, hg⟩
  · rw [hb] at h; cases h

def nd1 (n : Int) : Nd := ⟨2, [], [n], []⟩
def sa : List Nd := [⟨5, [2], [], []⟩, nd1 3, nd1 4]
def sd : List Nd := [⟨5, [0], [], []⟩]
theorem s1 : nestB [2] [[nd1 3], [nd1 4]] = true := by decide +kernel
theorem s2 : nestB [2] [[nd1 3]] = false := by decide +kernel
theorem s3 : nestB [0] [] = true := by decide +kernel
theorem s4 : rightA sa = true := by decide +kernel
theorem s5 : rightA sd = true := by decide +kernel
theorem s6 : rightA (sa.take 2) = false := by decide +kernel
theorem s7 : rightA [] = false := by decide +kernel
theorem s8 : (fs (sa ++ [nd1 5])).n = 3 := by decide +kernel
theorem s9 : (ws sa).i = 4 := by decide +kernel
theorem s10 : (ws sa).d = 2 := by decide +kernel
theorem s11 : (ws sd).d = 1 := by decide +kernel
theorem s12 : (ws sa).r = 1 := by decide +kernel
theorem s13 : (ws (sa.take 2)).i = 0 := by decide +kernel
theorem s14 : decide ([nd1 4] = [nd1 4]) = true := by decide +kernel
theorem s15 : decide ([nd1 3] = [nd1 4]) = false := by decide +kernel
theorem s16 : rightA [⟨1, [], [2], []⟩] = false := by decide +kernel
theorem s17 : rightA [⟨2, [], [], []⟩] = false := by decide +kernel
theorem s18 : rightA [⟨4, [], [], [(10, 0)]⟩] = false := by decide +kernel
theorem s19 : rightA [⟨3, [0, 3], [], []⟩] = true := by decide +kernel
theorem s20 : kidsA sa = [[nd1 3], [nd1 4]] := by
  have h1 : takeA [nd1 3, nd1 4] = 1 := by decide +kernel
  have h2 : takeA [nd1 4] = 1 := by decide +kernel
  unfold kidsA
  rw [s4, if_pos rfl, show sa.drop 1 = [nd1 3, nd1 4] from rfl, kd_step (by simp) (by rw [h1]; decide), h1, show [nd1 3, nd1 4].drop 1 = [nd1 4] from rfl, kd_step (by simp) (by rw [h2]; decide), h2, show [nd1 4].drop 1 = [] from rfl, kd_nil]
  rfl

theorem fit_lit {n : Nd} (h1 : In n.kind) (h2 : n.shp.length ≤ 1100000) (h3 : n.ints.length ≤ 1100000) (h4 : n.decs = [] ∨ n.decs = [(10, 0)]) : Fit n := by
  refine ⟨h1, h2, h3, ?_, ?_⟩
  · rcases h4 with h | h <;> rw [h] <;> decide
  · intro x hx
    rcases h4 with h | h
    · rw [h] at hx; cases hx
    · rw [h] at hx
      rw [List.mem_singleton.1 hx]
      exact ⟨⟨by decide, by decide⟩, ⟨by decide, by decide⟩⟩
theorem fit1 (n : Int) : Fit (nd1 n) := fit_lit ⟨by show (-9223372036854775808 : Int) ≤ 2; decide, by show (2 : Int) ≤ _; decide⟩ (Nat.zero_le _) (show 1 ≤ 1100000 by decide) (.inl rfl)
theorem fits1 {n : Nd} (h : Fit n) : Fits [n] := fun k hk => by rw [List.mem_singleton.1 hk]; exact h
theorem fits_app {a b : List Nd} (h : Fits a) (k : Fits b) : Fits (a ++ b) := fun n hn => by
  rcases List.mem_append.1 hn with hn | hn
  · exact h n hn
  · exact k n hn
theorem fitk1 {n : Nd} (h : Fit n) : FitK [[n]] := fun k hk => by rw [List.mem_singleton.1 hk]; exact ⟨show 1 ≤ 1100000 by decide, fits1 h⟩
theorem fits_sa : Fits sa := fits_cons (fit_lit ⟨by decide, by decide⟩ (by decide) (by decide) (.inl rfl)) (fits_cons (fit1 3) (fits1 (fit1 4)))
theorem fits_sd : Fits sd := fits1 (fit_lit ⟨by decide, by decide⟩ (by decide) (by decide) (.inl rfl))

theorem nums_lit (w : World) (xs : List Int) : Nums .i64 (w.alloc (.cells (ivs xs).toArray 3)) (w.alloc (.cells (ivs xs).toArray 3)).heap.size (some ⟨w.heap.size, 0, none⟩) xs := nums_cells (heap_alloc_new w _)
theorem decs_lit (w : World) (ds : List (Int × Int)) : Decs (w.alloc (.cells (dvs ds).toArray 42)) (w.alloc (.cells (dvs ds).toArray 42)).heap.size (some ⟨w.heap.size, 0, none⟩) ds := decs_cells (heap_alloc_new w _)
/-- a row of one node that was just laid -/
theorem node_lit (w : World) (k : Int) (A1 : Option Addr) (l1 c1 : Nat) (A2 : Option Addr) (l2 c2 : Nat) (A3 : Option Addr) (l3 c3 : Nat) (n : Nd) (hk : n.kind = k) (h1 : n.shp.length = l1) (h2 : n.ints.length = l2) (h3 : n.decs.length = l3) (hn : IsNd w w.heap.size A1 A2 A3 n) :
    Nodes (w.alloc (.cells #[.int .i64 k, .slice A1 l1 c1, .slice A2 l2 c2, .slice A3 l3 c3] 30)) (w.alloc (.cells #[.int .i64 k, .slice A1 l1 c1, .slice A2 l2 c2, .slice A3 l3 c3] 30)).heap.size (some ⟨w.heap.size, 0, none⟩) [n] := by
  subst hk h1 h2 h3
  exact boxN_nodes (boxN_new w _ _ _ _ _ _ _ _ _ _) (hn.grow (grow_new _ _))
theorem kids_lit1 (w : World) (A : Option Addr) (n c : Nat) (k : List Nd) (h : Nodes w w.heap.size A k) (hl : k.length = n) (hc : n ≤ c) :
    KidsAt (w.alloc (.cells #[.slice A n c] 22)) (w.alloc (.cells #[.slice A n c] 22)).heap.size (some ⟨w.heap.size, 0, none⟩) [k] := fun _ => by
  subst hl
  refine ⟨w.heap.size, 0, rfl, by simp, fun i hi => ?_⟩
  obtain rfl : i = 0 := by simpa using hi
  exact ⟨A, c, cell_of_row _ w.heap.size 0 _ _ (0, 0) (heap_alloc_new w _), hc, h.grow (grow_new _ _)⟩
theorem kids_lit2 (w : World) (A A' : Option Addr) (n c n' c' : Nat) (k k' : List Nd) (h : Nodes w w.heap.size A k) (hl : k.length = n) (hc : n ≤ c) (h' : Nodes w w.heap.size A' k') (hl' : k'.length = n') (hc' : n' ≤ c') :
    KidsAt (w.alloc (.cells #[.slice A n c, .slice A' n' c'] 22)) (w.alloc (.cells #[.slice A n c, .slice A' n' c'] 22)).heap.size (some ⟨w.heap.size, 0, none⟩) [k, k'] := fun _ => by
  subst hl hl'
  refine ⟨w.heap.size, 0, rfl, by simp, fun i hi => ?_⟩
  have hi' : i < 2 := hi
  match i, hi' with
  | 0, _ => exact ⟨A, c, cell_of_row _ w.heap.size 0 _ _ (0, 0) (heap_alloc_new w _), hc, h.grow (grow_new _ _)⟩
  | 1, _ => exact ⟨A', c', cell_of_row _ w.heap.size 1 _ _ (0, 0) (heap_alloc_new w _), hc', h'.grow (grow_new _ _)⟩
  | i + 2, h => omega
end Go.Proofs.Ytcljpcbgokgcdaa
