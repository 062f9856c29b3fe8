/-
  Mathematics: rows of bytes are encoded apart where a run stands between them. Nothing is claimed here by itself.
-/
import Derived.Test.YtoapfegmipopkaaEnc
namespace Go.Proofs.Ytoapfegmipopkaa

theorem last_app (l : List Int) {ys : List Int} (h : ys ≠ []) : (l ++ ys).getLast? = ys.getLast? := by
  rw [List.getLast?_append, List.getLast?_eq_some_getLast h]
  rfl

theorem run_first {ys : List Int} (h : ys ≠ []) (h0 : bef ys = 0) : ∃ a t, ys = a :: a :: a :: t := by
  match ys, h, h0 with
  | a :: t, _, h0 =>
    have := bef_zero.1 h0
    match t, this with
    | [], h1 => simp at h1
    | [b], h1 => simp at h1
    | b :: c :: t, h1 =>
      simp at h1
      exact ⟨a, t, by rw [h1.1, h1.2]⟩

theorem bef_more (c : Int) (m : Nat) (R0 : List Int) (ys : List Int) (hy : bef ys = 0) : ∀ l : List Int, bef (l ++ ys) = l.length → (ys = [] → l.getLast? ≠ some c) → bef (l ++ (ys ++ (List.replicate (m + 3) c ++ R0))) = l.length := by
  intro l
  induction l with
  | nil =>
    intro _ _
    by_cases h : ys = []
    · subst h
      exact bef_rep c m R0
    · obtain ⟨a, t, rfl⟩ := run_first h hy
      simp [bef]
  | cons x t ih =>
    intro h hl
    rw [List.cons_append, bef] at h
    split at h
    · simp at h
    · rename_i hno
      have h' : bef (t ++ ys) = t.length := by simpa using h
      have ht := ih h' (fun e => by
        cases t with
        | nil => simp
        | cons y t => have := hl e; rwa [List.getLast?_cons_cons] at this)
      rw [List.cons_append, bef, if_neg, ht]
      · rfl
      · by_cases hlen : 2 ≤ (t ++ ys).length
        · rw [← List.append_assoc, List.take_append_of_le_length hlen]
          exact hno
        · have hye : ys = [] := by
            by_cases e : ys = []
            · exact e
            · obtain ⟨a, u, rfl⟩ := run_first e hy
              simp at hlen
              omega
          subst hye
          have hx := hl rfl
          rw [List.append_nil] at hlen
          match t, hlen, hx with
          | [], _, hx =>
            intro e
            simp [List.replicate_succ] at e hx
            exact hx e.symm
          | [y], _, hx =>
            intro e
            simp [List.replicate_succ] at e hx
            exact hx (e.1.trans e.2.symm)
          | _ :: _ :: _, hlen, _ => simp at hlen

theorem enc_parts (c : Int) (m : Nat) (b : List Int) (hb : b.head? ≠ some c) : ∀ (k : Nat) (a : List Int), a.length ≤ k → a.getLast? ≠ some c → enc (a ++ (List.replicate (m + 3) c ++ b)) = enc a ++ (digs (2 * m + 1) ++ c :: enc b) := by
  intro k
  induction k with
  | zero =>
    intro a h _
    have : a = [] := List.eq_nil_of_length_eq_zero (by omega)
    subst this
    rw [enc_nil, List.nil_append, List.nil_append, enc_run c m b hb]
  | succ k ih =>
    intro a h hl
    rcases enc_cases a with rfl | ⟨d, j, ys, rfl, h1⟩ | ⟨l, ys, rfl, h1, h2, h3⟩
    · rw [enc_nil, List.nil_append, List.nil_append, enc_run c m b hb]
    · have hlast : ys.getLast? ≠ some c := by
        by_cases e : ys = []
        · subst e; simp
        · rw [last_app _ e] at hl
          exact hl
      have hhead : (ys ++ (List.replicate (m + 3) c ++ b)).head? ≠ some d := by
        cases ys with
        | nil =>
          have hdc : d ≠ c := by
            intro e
            apply hl
            rw [List.append_nil, List.getLast?_replicate, e]
            simp
          simp [List.replicate_succ]
          exact fun e => hdc e.symm
        | cons y ys => simpa using h1
      rw [List.append_assoc, enc_run d j _ hhead, enc_run d j ys h1, ih ys (by simp at h; omega) hlast]
      simp
    · have hl0 := List.length_pos_iff.2 h1
      have hb2 := bef_more c m b ys h3 l h2 (fun e => by subst e; rwa [List.append_nil] at hl)
      have hlast : ys.getLast? ≠ some c := by
        by_cases e : ys = []
        · subst e; simp
        · rw [last_app _ e] at hl
          exact hl
      rw [List.append_assoc, enc_oth l _ h1 hb2, enc_oth l ys h1 h2, ih ys (by simp at h; omega) hlast]
      simp
end Go.Proofs.Ytoapfegmipopkaa
