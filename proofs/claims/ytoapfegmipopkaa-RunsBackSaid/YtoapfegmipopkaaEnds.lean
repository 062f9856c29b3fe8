/-
  What slices that came in read as. Nothing is claimed here by itself.
-/
import Derived.Test.YtoapfegmipopkaaJoin
import Derived.OpenShut
namespace Go.Proofs.Ytoapfegmipopkaa
open Go.RowKit

theorem block_lt {w : World} {a : Addr} {v : Value} (h : w.cell? a = some v) : a.block < w.heap.size := by
  rcases Nat.lt_or_ge a.block w.heap.size with hlt | hge
  · exact hlt
  · simp [World.cell?, Array.getElem?_eq_none hge] at h

/-- what a slice of numbers that came in reads as -/
theorem nums_of_row {k : IntKind} {w : World} {a : Option Addr} {len cap : Nat} {zs : List Int}
    (h : (a = none ∧ len = 0 ∧ cap = 0 ∧ zs = []) ∨
      ∃ x, a = some x ∧ len ≤ cap ∧ cap ≤ maxLen ∧ zs.length = cap ∧ (∀ i, i < zs.length → w.cell? (x.add i) = some (.int k (zs.getD i 0))) ∧ ∀ n ∈ zs, (Lit.int k n).wf = true) :
    ∃ xs : List Int, xs.length = len ∧ len ≤ 9223372036854775807 ∧ Nums k w w.heap.size a xs ∧ (∀ n ∈ xs, (Lit.int k n).wf = true) ∧ len ≤ cap ∧ (a = none → cap = 0) := by
  rcases h with ⟨rfl, rfl, rfl, rfl⟩ | ⟨x, rfl, hl, hm, hz, hcell, hwf⟩
  · exact ⟨[], rfl, Nat.zero_le _, Nums.none_, by simp, Nat.le_refl _, fun _ => rfl⟩
  · refine ⟨zs.take len, by simp; omega, Nat.le_trans hl hm, fun hp => ?_, fun n hn => hwf n (List.mem_of_mem_take hn), hl, by simp⟩
    have hp' : 0 < zs.length := by simp at hp; omega
    have h0 := hcell 0 hp'
    obtain ⟨b, off, spot⟩ := x
    have hspot : spot = none := by simpa [Addr.add] using World.cell?_spot h0
    subst hspot
    refine ⟨b, off, rfl, by simpa [Addr.add] using block_lt h0, fun i hi => ?_⟩
    have hi1 : i < len ∧ i < zs.length := by simp at hi; omega
    have hc := hcell i hi1.2
    have e : (⟨b, off, none⟩ : Addr).add i = ⟨b, off + i, none⟩ := by unfold Addr.add; split <;> simp_all
    rw [e] at hc
    rw [hc]
    simp [hi1.1]
theorem byt_of {xs : List Int} (h : ∀ n ∈ xs, (Lit.int .u8 n).wf = true) : Byt xs := fun n hn => by
  have := bounds_u8 (h n hn)
  omega
theorem u64_of {xs : List Int} (h : ∀ n ∈ xs, (Lit.int .u64 n).wf = true) : U64 xs := fun n hn => by
  have := bounds_u64 (h n hn)
  omega

theorem take_is (A : Option Addr) (n cap : Nat) (bs : List Int) (x k e0 : Nat) (w : World) (B : Nat) (hn : n = bs.length) (hl : n ≤ 1000000000000000000) (hb : Byt bs) (hr : Nums .u8 w B A bs) (ht : takeN bs = (x, k, e0)) :
    Calls Try.prog 35 #[.slice A n cap] w fun e w' => e = .returned (.tuple #[.int .u64 (x : Nat), .int .i64 (k : Nat), .int .i64 (e0 : Nat)]) ∧ w' = w := by
  subst hn
  have h := take_any A cap bs w B hl hb hr
  rw [ht] at h
  exact h

theorem cut_addr {k : IntKind} {w : World} {B cap d : Nat} {A : Option Addr} {xs : List Int} (h : Nums k w B A xs) (hc : xs.length ≤ cap) : Nums k w B (if cap = d then A else Option.map (fun x => x.add d) A) (xs.drop d) := by
  by_cases e : cap = d
  · rw [if_pos e]
    have : xs.drop d = [] := List.drop_of_length_le (by omega)
    rw [this]
    exact Nums.none_
  · rw [if_neg e]
    exact h.drop_ d

theorem own_cap {w : World} {base n n' cap : Nat} {A : Option Addr} {xs : List Value} (h : w.ownsRow base 5 1 (.slice A n' cap) n xs) : n ≤ cap := by
  rcases h.2 with ⟨h0, hn⟩ | ⟨g, c, cur, hv, _, _, hnc, _⟩
  · omega
  · cases hv
    exact hnc

theorem put_nil (Al : Option Addr) (n cl N : Nat) (ls : List Int) (w : World) (h1 : ls.length = n) (hn : n ≤ 10000000000000) (hu : U64 ls) (hr : Nums .u64 w w.heap.size Al ls) (hN : (flat ls).length = N) :
    Calls Try.prog 14 #[.slice none 0 0, .slice Al n cl] w fun e w' => ∃ g, e = .returned (.slice (some ⟨g, 0, none⟩) N N) ∧ w'.rowIs g 5 N (fun i => .int .u8 ((flat ls).getD i 0)) ∧ Grow w w' ∧ w.heap.size ≤ g := by
  subst hN
  have h := put_new none Al 0 n 0 cl [] ls w rfl h1.symm (by decide) hn hu (fun _ => rfl) Nums.none_ hr
  rw [List.nil_append] at h
  exact h

end Go.Proofs.Ytoapfegmipopkaa
