/-
  Texts that are unlike one another; a map of texts that were there. Nothing is claimed here by itself.
-/
import Derived.Test.YtcnijmmpkahoaaaDoorTakes
import Derived.Maps.OwnOps
import Derived.Maps.Views
namespace Go.Proofs.YtcnijmmpkahoaaaDoor
open Go.RowKit Go.Lib Go.Maps
open Go.WideMaps (keyOf_string_mk)
set_option linter.unusedSimpArgs false
set_option linter.unusedVariables false

/-- are these unlike, and unlike those that were seen? -/
def unlF : List (List UInt8) → List (List UInt8) → Bool
  | _, [] => true
  | seen, s :: r => if s ∈ seen then false else unlF (if s = [] then seen else seen ++ [s]) r
/-- P8.3 -/
def unlB (ls : List (List UInt8)) : Bool := unlF [] ls
/-- none of the later ones that are not empty is like an earlier one -/
def Apart (ls : List (List UInt8)) : Prop := ls.Pairwise fun a b => b ≠ [] → b ≠ a

theorem unlF_iff : ∀ (ls seen : List (List UInt8)), unlF seen ls = true ↔ Apart ls ∧ ∀ x ∈ ls, x ∉ seen
  | [], seen => by simp [unlF, Apart]
  | s :: r, seen => by
    unfold unlF
    by_cases hs : s ∈ seen
    · rw [if_pos hs]
      constructor
      · intro h; cases h
      · rintro ⟨_, h⟩
        exact absurd hs (h s (by simp))
    · rw [if_neg hs]
      by_cases h0 : s = []
      · rw [if_pos h0, unlF_iff r seen]
        subst h0
        unfold Apart
        rw [List.pairwise_cons]
        constructor
        · rintro ⟨h1, h2⟩
          exact ⟨⟨fun x _ h => h, h1⟩, fun x hx => by
            rcases List.mem_cons.1 hx with rfl | hx
            · exact hs
            · exact h2 x hx⟩
        · rintro ⟨⟨_, h1⟩, h2⟩
          exact ⟨h1, fun x hx => h2 x (by simp [hx])⟩
      · rw [if_neg h0, unlF_iff r (seen ++ [s])]
        unfold Apart
        rw [List.pairwise_cons]
        constructor
        · rintro ⟨h1, h2⟩
          refine ⟨⟨fun x hx _ e => h2 x hx (by simp [e]), h1⟩, fun x hx => ?_⟩
          rcases List.mem_cons.1 hx with rfl | hx
          · exact hs
          · exact fun h => h2 x hx (by simp [h])
        · rintro ⟨⟨h3, h1⟩, h2⟩
          refine ⟨h1, fun x hx h => ?_⟩
          rcases List.mem_append.1 h with h | h
          · exact h2 x (by simp [hx]) h
          · have e : x = s := by simpa using h
            exact h3 x hx (by rw [e]; exact h0) e
theorem unl_iff (ls : List (List UInt8)) : unlB ls = true ↔ Apart ls := by
  unfold unlB
  rw [unlF_iff]
  exact ⟨fun h => h.1, fun h => ⟨h, by simp⟩⟩

/-- those that were seen in so many -/
def seenD (ls : List (List UInt8)) (k : Nat) : List (List UInt8) := (ls.take k).filter fun s => !s.isEmpty
theorem seen_zero (ls : List (List UInt8)) : seenD ls 0 = [] := rfl
theorem seen_next {ls : List (List UInt8)} {k : Nat} (h : k < ls.length) : seenD ls (k + 1) = if ls.getD k [] = [] then seenD ls k else seenD ls k ++ [ls.getD k []] := by
  unfold seenD
  rw [List.take_succ_eq_append_getElem h, List.filter_append]
  have e : ls.getD k [] = ls[k] := by simp [List.getD, h]
  rw [e]
  by_cases h0 : ls[k] = []
  · rw [if_pos h0, h0]; simp
  · rw [if_neg h0]
    congr 1
    simp [h0]
theorem unl_round {ls : List (List UInt8)} {k : Nat} (h : k < ls.length) : unlF (seenD ls k) (ls.drop k) = if ls.getD k [] ∈ seenD ls k then false else unlF (seenD ls (k + 1)) (ls.drop (k + 1)) := by
  rw [seen_next h]
  have e : ls.getD k [] = ls[k] := by simp [List.getD, h]
  rw [List.drop_eq_getElem_cons h, e]
  rfl

/-! ### the map -/
theorem keyLaw : Keyed Tryd.prog 9 := string_keyed Tryd.underlying9
theorem plainElem_bool_inv {H : Type} {P : Program} {e : TypeId} (he : P.underlying e = some .bool) {v : Value} {z : DataW H × List MemPlace} (h : plainElem P e v = some z) : ∃ x, v = .bool x ∧ z = (.lit (.bool x), []) := by
  unfold plainElem at h
  rw [he] at h
  cases v <;> simp at h
  exact ⟨_, rfl, h.symm⟩

section
variable {H : Type}
theorem atKey_fold (u : DataW H) (k : Lit) (z : DataW H) : ∀ (acc : List Lit) (m : DataW H), IsMap m → (∀ x ∈ acc, WideAt.IsKeyLit x) →
    (k ∈ acc → (acc.foldl (fun m x => m.put x u) m).atKey k z = u) ∧ (k ∉ acc → (acc.foldl (fun m x => m.put x u) m).atKey k z = m.atKey k z)
  | [], m, _, _ => ⟨fun h => by simp at h, fun _ => rfl⟩
  | x :: r, m, hm, h => by
    rw [List.foldl_cons]
    obtain ⟨h1, h2⟩ := atKey_fold u k z r (m.put x u) (hm.put x u) (fun y hy => h y (by simp [hy]))
    by_cases hr : k ∈ r
    · exact ⟨fun _ => h1 hr, fun hn => absurd (List.mem_cons_of_mem _ hr) hn⟩
    · rw [h2 hr]
      by_cases e : k = x
      · subst e
        rw [atKey_put_same hm (h k (by simp))]
        exact ⟨fun _ => rfl, fun hn => absurd (by simp) hn⟩
      · rw [atKey_put_other e]
        exact ⟨fun hm => by rcases List.mem_cons.1 hm with h | h <;> contradiction, fun _ => rfl⟩
theorem atKey_setOf (u : DataW H) (k : Lit) (z : DataW H) (acc : List Lit) (h : ∀ x ∈ acc, WideAt.IsKeyLit x) : (k ∈ acc → (setOf u acc).atKey k z = u) ∧ (k ∉ acc → (setOf u acc).atKey k z = z) :=
  atKey_fold u k z acc _ isMap_empty h
end

/-- the map at the block b holds just these texts -/
def Seen (w : World) (b n : Nat) (seen : List (List UInt8)) : Prop :=
  w.ownsMap (H := Unit) Tryd.prog 9 (plainElem Tryd.prog 4) b n (setOf (.lit (.bool true)) (seen.map Lit.string))
theorem seen_new (w : World) : Seen (w.alloc (.map #[] 0)) w.heap.size 0 [] := World.ownsMap_made _ _ _ _
theorem Seen.look {w : World} {b n : Nat} {seen : List (List UInt8)} (h : Seen w b n seen) (s : List UInt8) (hs : s.length ≤ maxLen) :
    (Instr.lookup 53 (.map (some b)) (.string ⟨s.toArray⟩) false).run Tryd.prog w = .ok (.bool (decide (s ∈ seen))) w := by
  obtain ⟨v, ps, hrun, hv⟩ := World.ownsMap.lookup h keyLaw Tryd.underlying53 (Tryd.zeroValue4 w) (plainElem_bool Tryd.underlying4 false) (keyOf_string_mk Tryd.underlying9 (s := ⟨s.toArray⟩) (by rw [str_size]; exact hs))
  obtain ⟨x, rfl, hx⟩ := plainElem_bool_inv Tryd.underlying4 hv
  rw [hrun]
  have he := (Prod.mk.inj hx).1
  have hm : Lit.string s ∈ seen.map Lit.string ↔ s ∈ seen := by simp
  obtain ⟨a1, a2⟩ := atKey_setOf (H := Unit) (.lit (.bool true)) (Lit.string s) (.lit (.bool false)) (seen.map Lit.string) (fun y hy => by
    obtain ⟨t, _, rfl⟩ := List.mem_map.1 hy
    trivial)
  congr 2
  by_cases hin : s ∈ seen
  · have e := he.symm.trans (a1 (hm.2 hin))
    injection e with e
    injection e with e
    rw [e, decide_eq_true hin]
  · have e := he.symm.trans (a2 (fun h => hin (hm.1 h)))
    injection e with e
    injection e with e
    rw [e, decide_eq_false hin]
theorem wpList_seen {w : World} {ops : Array Oper} {rest : List Oper} {o : Oper} {a : Act} {Q : Exit → Act → World → Prop}
    (hg : o.guard = none) (m x v : Operand) (hop : o.op = Op.mapUpdate 53 m x v) {b n : Nat} {seen : List (List UInt8)} (s : List UInt8)
    (hm : a.eval m = .map (some b)) (h : Seen w b n seen) (hn : n < maxLen) (hx : a.eval x = .string ⟨s.toArray⟩) (hv : a.eval v = .bool true) (hs : s.length ≤ maxLen)
    (hK : ∀ w', Seen w' b (n + 1) (seen ++ [s]) → w.grownBy w' (some b) → wpList Tryd.prog ops Q rest (a.put o.dst undef) w') :
    wpList Tryd.prog ops Q (o :: rest) a w := by
  refine wpList_mapUpdate_own w hg m x v 53 hop 9 4 keyLaw Tryd.underlying53 (plainElem Tryd.prog 4) b n _ hm h hn (.string ⟨s.toArray⟩) (.bool true) (.string s) hx hv
    (by rw [keyOf_string_mk Tryd.underlying9 (s := ⟨s.toArray⟩) (by rw [str_size]; exact hs)]) (.lit (.bool true)) [] (plainElem_bool Tryd.underlying4 true) ?_
  intro w' h1 h2
  refine hK w' ?_ h2
  unfold Seen
  rw [List.map_append, List.map_cons, List.map_nil, setOf_snoc]
  exact h1
end Go.Proofs.YtcnijmmpkahoaaaDoor
