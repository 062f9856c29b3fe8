/-
  What TightNumbers says, as mathematics. Nothing is claimed here by itself.
-/
import Derived.Test.YtcljpcbgokgcdaaTightA
import Derived.Test.YtcljpcbgokgcdaaRowIn
namespace Go.Proofs.Ytcljpcbgokgcdaa
open Go.RowKit Go.Lib
set_option linter.unusedSimpArgs false
set_option linter.unusedVariables false


def bitsB (xs : List Int) : Bool := decide (0 < xs.length) && xs.all bitB
theorem kindI_bits (xs : List Int) : kindI xs = if bitsB xs = true then 1 else 2 := by
  unfold kindI bitsB
  by_cases h0 : xs.length = 0
  · rw [if_pos (.inl h0)]; simp [h0]
  · have hp : 0 < xs.length := by omega
    cases hb : xs.all bitB with
    | true => rw [if_neg (by simp [h0])]; simp [hp]
    | false => rw [if_pos (.inr rfl)]; simp
def nodeW (xs : List Int) : Nd := ⟨kindI xs, [(xs.length : Int)], xs, []⟩
def halfL (xs : List Int) : List (Int × Int) := xs.map ofD ++ [(5, -1)]
def nodeH (xs : List Int) : Nd := ⟨4, [1, ((xs.length + 1 : Nat) : Int)], [], halfL xs⟩
theorem cnt_one {n : Nat} (h : n ≤ 1000) : rightB [(n : Int)] = true ∧ cnt [(n : Int)] = n := by
  have hr : rightB [(n : Int)] = true := by
    unfold rightB okI
    simp [toN, prodN]
    omega
  refine ⟨hr, ?_⟩
  unfold cnt
  rw [if_pos hr]
  simp [toN, prodN]
theorem cnt_two {n : Nat} (h : n ≤ 1000) : rightB [1, (n : Int)] = true ∧ cnt [1, (n : Int)] = n := by
  have hr : rightB [1, (n : Int)] = true := by
    unfold rightB okI
    simp [toN, prodN]
    omega
  refine ⟨hr, ?_⟩
  unfold cnt
  rw [if_pos hr]
  simp [toN, prodN]
theorem half_facts {xs : List Int} (hin : ∀ x ∈ xs, In x) : (halfL xs).all decB = true ∧ (halfL xs).all whlB = false ∧ ∀ x ∈ halfL xs, In x.1 ∧ In x.2 := by
  obtain ⟨a1, a2, a3⟩ := of_all hin
  have e1 : decB (5, -1) = true := by decide +kernel
  have e2 : whlB (5, -1) = false := by decide +kernel
  refine ⟨?_, ?_, fun x hx => ?_⟩
  · unfold halfL; rw [List.all_append, a3]; simp [e1]
  · unfold halfL; rw [List.all_append]; simp [e2]
  · rcases List.mem_append.1 hx with hx | hx
    · obtain ⟨y, hy, rfl⟩ := List.mem_map.1 hx
      exact ⟨(of_facts (hin y hy)).1, (of_facts (hin y hy)).2.1⟩
    · rw [List.mem_singleton.1 hx]; exact ⟨⟨by decide, by decide⟩, ⟨by decide, by decide⟩⟩
theorem nums_facts {xs : List Int} (hl : xs.length ≤ 200) (hin : ∀ x ∈ xs, In x) : numO [(xs.length : Int)] (xs.map ofD) = some (nodeW xs) ∧ numO [1, ((xs.length + 1 : Nat) : Int)] (halfL xs) = some (nodeH xs) ∧
    OkOne (nodeW xs) (nodeW xs) ∧ OkOne (nodeH xs) (nodeH xs) ∧ (∀ x ∈ xs.map ofD, In x.1 ∧ In x.2) ∧ (ws [nodeW xs]).i ≤ 1099999 ∧ (ws [nodeH xs]).i ≤ 1099999 := by
  obtain ⟨a1, a2, a3⟩ := of_all hin
  obtain ⟨h1, h2, h3⟩ := half_facts hin
  obtain ⟨c1, c2⟩ := cnt_one (n := xs.length) (by omega)
  obtain ⟨c3, c4⟩ := cnt_two (n := xs.length + 1) (by omega)
  have hhl : (halfL xs).length = xs.length + 1 := by simp [halfL]
  have e1 : leastN [(xs.length : Int)] (xs.map ofD) = nodeW xs := by unfold leastN; rw [if_pos a1, a2]; rfl
  have e2 : leastN [1, ((xs.length + 1 : Nat) : Int)] (halfL xs) = nodeH xs := by unfold leastN; rw [h2, if_neg (by decide)]; rfl
  have hdi : ∀ x ∈ xs.map ofD, In x.1 ∧ In x.2 := fun x hx => by
    obtain ⟨y, hy, rfl⟩ := List.mem_map.1 hx
    exact ⟨(of_facts (hin y hy)).1, (of_facts (hin y hy)).2.1⟩
  have o1 := least_one (n := nodeW xs) (l := xs.map ofD) c1 (by rw [List.length_map]; exact c2) a3 hdi (by rw [List.length_map]; omega)
  have o2 := least_one (n := nodeH xs) (l := halfL xs) c3 (by rw [hhl]; exact c4) h1 h3 (by rw [hhl]; omega)
  rw [show (nodeW xs).shp = [(xs.length : Int)] from rfl, e1] at o1
  rw [show (nodeH xs).shp = [1, ((xs.length + 1 : Nat) : Int)] from rfl, e2] at o2
  refine ⟨?_, ?_, o1, o2, hdi, ?_, ?_⟩
  · unfold numO; rw [if_pos ⟨c1, by rw [List.length_map]; exact c2, a3⟩, e1]
  · unfold numO; rw [if_pos ⟨c3, by rw [hhl]; exact c4, h1⟩, e2]
  · rw [(alone_right o1).2.2]; show cnt [(xs.length : Int)] ≤ _; rw [c2]; omega
  · rw [(alone_right o2).2.2]; show cnt [1, ((xs.length + 1 : Nat) : Int)] ≤ _; rw [c4]; omega
end Go.Proofs.Ytcljpcbgokgcdaa
