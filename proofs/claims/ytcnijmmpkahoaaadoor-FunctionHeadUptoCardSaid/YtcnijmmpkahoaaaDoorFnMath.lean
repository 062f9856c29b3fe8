/-
  Lines of functions, as plain functions on bytes. Nothing is claimed here by itself.
-/
import Derived.Test.YtcnijmmpkahoaaaDoorHeadRead
import Derived.Test.YtcnijmmpkahoaaaDoorRTakes
import Derived.Lib.Join
namespace Go.Proofs.YtcnijmmpkahoaaaDoor
open Go.Lib (cut index count splitK occAt)
set_option linter.unusedSimpArgs false
set_option linter.unusedVariables false
set_option maxRecDepth 10000

/-- a sign that no line has -/
def offC (c : Nat) : Bool := decide (c < 32) || (decide (127 ≤ c) && decide (c ≤ 159))
/-- P16.1: a line -/
def lineD (l : List UInt8) : Bool := match signsD l with
  | none => false
  | some ss => decide (ss.length ≤ 1000) && !(ss.any offC)
/-- P16.1: a line's label (empty: none) -/
def labelD (l : List UInt8) : List UInt8 := if l[takenD l]? = some 58 then l.take (takenD l) else []
/-- .. as the program reads it -/
def labelP (l : List UInt8) : List UInt8 := if (cut l [58]).2.2 = true ∧ takenD (cut l [58]).1 = (cut l [58]).1.length then (cut l [58]).1 else []
/-- P16.1: all lines' labels but the first one's -/
def labelsD (ls : List (List UInt8)) : List (List UInt8) := ((ls.drop 1).map labelD).filter fun s => !s.isEmpty
/-- P16.2: the header of right lines -/
def headL (ls : List (List UInt8)) : Option Hd :=
  if ls ≠ [] ∧ ls.length ≤ 1000 ∧ ls.all lineD = true then
    match parseR (ls.getD 0 []) with
    | none => none
    | some h => if (labelsD ls).all rightD = true ∧ unlB (allH h ++ labelsD ls) = true then some h else none
  else none
def nameL (ls : List (List UInt8)) : List UInt8 := match headL ls with
  | none => []
  | some h => h.name
/-- P16.3 -/
def joinD : List (List UInt8) → List UInt8
  | [] => []
  | l :: r => if r = [] then l else l ++ 10 :: joinD r

/-! ### signs -/
theorem bytes_low {c : Nat} {b : UInt8} (h : b ∈ bytesD c) (hb : b.toNat < 128) : c = b.toNat := by
  unfold bytesD at h
  split at h
  · rename_i hs
    have hc := isSign_iff.1 hs
    have no : ∀ n, 128 ≤ n → n < 256 → b = UInt8.ofNat n → False := fun n h1 h2 e => by
      rw [e, u8_nat h2] at hb
      omega
    split at h
    · simp at h
      rw [h, u8_nat (by omega)]
    · exfalso
      split at h
      · simp only [List.mem_cons, List.not_mem_nil, or_false] at h
        rcases h with h | h
        · exact no _ (by omega) (by omega) h
        · exact no _ (by omega) (by omega) h
      · split at h
        · simp only [List.mem_cons, List.not_mem_nil, or_false] at h
          rcases h with h | h | h
          · exact no _ (by omega) (by omega) h
          · exact no _ (by omega) (by omega) h
          · exact no _ (by omega) (by omega) h
        · simp only [List.mem_cons, List.not_mem_nil, or_false] at h
          rcases h with h | h | h | h
          · exact no _ (by omega) (by omega) h
          · exact no _ (by omega) (by omega) h
          · exact no _ (by omega) (by omega) h
          · exact no _ (by omega) (by omega) h
  · simp at h
theorem text_mem : ∀ {cs : List Nat} {b : UInt8}, b ∈ textD cs → b.toNat < 128 → b.toNat ∈ cs
  | [], b, h, _ => by simp [textD] at h
  | c :: t, b, h, hb => by
    rcases List.mem_append.1 (show b ∈ bytesD c ++ textD t from h) with h | h
    · rw [bytes_low h hb]; simp
    · exact List.mem_cons_of_mem _ (text_mem h hb)
/-- a text all of whose signs a line may have -/
def OkT (l : List UInt8) : Prop := ∃ ss, signsD l = some ss ∧ ss.any offC = false
theorem line_iff {l : List UInt8} : lineD l = true ↔ ∃ ss, signsD l = some ss ∧ ss.length ≤ 1000 ∧ ss.any offC = false := by
  unfold lineD
  cases h : signsD l with
  | none => simp
  | some ss => simp
theorem line_low {l : List UInt8} (h : lineD l = true) {b : UInt8} (hb : b.toNat < 32) : b ∉ l := fun hm => by
  obtain ⟨ss, h1, _, h3⟩ := line_iff.1 h
  obtain ⟨_, e⟩ := signs_inv h1
  rw [← e] at hm
  have := text_mem hm (by omega)
  rw [List.any_eq_false] at h3
  exact h3 _ this (by simp [offC, hb])
theorem line_not {l : List UInt8} (h : lineD l = true) : (10 : UInt8) ∉ l := line_low h (by decide)
theorem OkT.line {l : List UInt8} (h : OkT l) (hl : l.length ≤ 1000) : lineD l = true := by
  obtain ⟨ss, h1, h2⟩ := h
  exact line_iff.2 ⟨ss, h1, by have := signs_len h1; omega, h2⟩
theorem OkT.app {a b : List UInt8} (h : OkT a) (k : OkT b) : OkT (a ++ b) := by
  obtain ⟨x, h1, h2⟩ := h
  obtain ⟨y, k1, k2⟩ := k
  refine ⟨x ++ y, by rw [signs_append h1, k1]; rfl, ?_⟩
  rw [List.any_append, h2, k2]
  rfl
theorem okT_nil : OkT [] := ⟨[], rfl, rfl⟩
theorem okT_byte {b : UInt8} (h1 : 32 ≤ b.toNat) (h2 : b.toNat < 127) : OkT [b] := by
  refine ⟨[b.toNat], ?_, ?_⟩
  · rw [signsD_step (by simp), next_one (by omega)]
    simp [signsD_nil]
  · simp [offC]
    omega
theorem okT_sign {c : Nat} (h : isSign c = true) (ho : offC c = false) : OkT (bytesD c) := by
  refine ⟨[c], ?_, by simp [ho]⟩
  have := signs_cons h []
  rw [List.append_nil, signsD_nil] at this
  rw [this]
  rfl
theorem okT_arrow : OkT arrowT := by
  have := okT_sign (c := 8592) (by decide) (by decide)
  rw [show bytesD 8592 = arrowT by decide] at this
  exact this
theorem okT_go {l : List UInt8} (h : goW l ≠ 0) : OkT (l.take (goW l)) := by
  rcases go_cases l with h0 | ⟨b, r, rfl, hb⟩ | ⟨r, rfl⟩ | ⟨b, r, rfl, hb⟩ | ⟨r, rfl⟩ | ⟨r, rfl⟩
  · exact absurd h0.1 h
  · rw [go_dig hb]
    have := digB_iff.1 hb
    exact okT_byte (by omega) (by omega)
  · rw [go_over]
    have := okT_sign (c := 175) (by decide) (by decide)
    rw [show bytesD 175 = [194, 175] by decide] at this
    exact this
  · rw [(beg_byte hb r).2]
    have := begB_iff.1 hb
    exact okT_byte (by omega) (by omega)
  · rw [(beg_del r).2]
    have := okT_sign (c := 8710) (by decide) (by decide)
    rw [show bytesD 8710 = [226, 136, 134] by decide] at this
    exact this
  · rw [(beg_und r).2]
    have := okT_sign (c := 9049) (by decide) (by decide)
    rw [show bytesD 9049 = [226, 141, 153] by decide] at this
    exact this
theorem okT_run : ∀ (l : List UInt8), run l = l.length → OkT l
  | l, h => by
    by_cases h0 : l = []
    · subst h0; exact okT_nil
    · obtain ⟨h1, h2, _, h4⟩ := whole_step h h0
      have hlt : (l.drop (goW l)).length < l.length := by rw [List.length_drop]; omega
      have := (okT_go h1).app (okT_run (l.drop (goW l)) h2)
      rwa [List.take_append_drop] at this
  termination_by l => l.length
  decreasing_by exact hlt
theorem okT_name {l : List UInt8} (h : rightD l = true) : OkT l := okT_run l (right_iff.1 h).2.1
theorem okT_may {l : List UInt8} (h : mayD l = true) : OkT l := by
  unfold mayD at h
  rw [Bool.or_eq_true] at h
  rcases h with h | h
  · have : l = [] := by simpa using h
    subst this
    exact okT_nil
  · exact okT_name h
theorem okT_part {a w b : List UInt8} (ha : OkT a) (hw : OkT w) (hb : OkT b) : OkT (partD a w b) := by
  unfold partD
  split
  · exact okT_nil
  · exact (ha.app hw).app hb
theorem okT_locs : ∀ (ls : List (List UInt8)), (∀ l ∈ ls, OkT l) → OkT (locT ls)
  | [], _ => okT_nil
  | l :: r, h => (okT_part (okT_byte (by decide) (by decide)) (h l (by simp)) okT_nil).app (okT_locs r fun x hx => h x (by simp [hx]))
/-- a right header's text has no sign that a line has not -/
theorem okT_head {h : Hd} (k : rightH h = true) : OkT (textH h) := by
  obtain ⟨k1, k2, k3, _, _, _⟩ := right_parts k
  have km := List.all_eq_true.1 k2
  have m1 := okT_may (km h.res (by simp [mayH]))
  have m2 := okT_may (km h.left (by simp [mayH]))
  have m3 := okT_may (km h.right (by simp [mayH]))
  have m4 := okT_may (km h.f (by simp [mayH]))
  have m5 := okT_may (km h.g (by simp [mayH]))
  have ml := okT_locs h.locs fun l hl => okT_name (List.all_eq_true.1 k3 l hl)
  have b32 : OkT [32] := okT_byte (by decide) (by decide)
  have b40 : OkT [40] := okT_byte (by decide) (by decide)
  have b41 : OkT [41] := okT_byte (by decide) (by decide)
  have mo : OkT (if h.f = [] then [] else [41]) := by split; exact okT_nil; exact b41
  unfold textH frontT
  exact (((((((okT_part okT_nil m1 okT_arrow).app (okT_part okT_nil m2 b32)).app (okT_part b40 m4 b32)).app (okT_name k1)).app (okT_part b32 m5 okT_nil)).app mo).app (okT_part b32 m3 okT_nil)).app ml

/-! ### labels -/
theorem name_no_colon {l : List UInt8} (h : run l = l.length) : (58 : UInt8) ∉ l := not_in (run_bytes l h) (by decide)
theorem go_colon (b : List UInt8) : goW (58 :: b) = 0 := by
  rcases go_cases (58 :: b) with h0 | ⟨c, r, e, hc⟩ | ⟨r, e⟩ | ⟨c, r, e, hc⟩ | ⟨r, e⟩ | ⟨r, e⟩
  · exact h0.1
  · injection e with e1 e2
    subst e1
    exact absurd hc (by decide)
  · injection e with e1 e2
    exact absurd e1 (by decide)
  · injection e with e1 e2
    subst e1
    exact absurd hc (by decide)
  · injection e with e1 e2
    exact absurd e1 (by decide)
  · injection e with e1 e2
    exact absurd e1 (by decide)
theorem beg_colon (b : List UInt8) : begW (58 :: b) = 0 := by
  by_cases h : begW (58 :: b) = 0
  · exact h
  · have := (beg_go h).1
    rw [go_colon] at this
    exact this.symm
theorem taken_colon {a : List UInt8} (h : takenD a = a.length) (b : List UInt8) : takenD (a ++ 58 :: b) = a.length := by
  by_cases h0 : begW a = 0
  · rw [taken_zero h0] at h
    obtain rfl : a = [] := List.eq_nil_of_length_eq_zero h.symm
    exact taken_zero (beg_colon b)
  · rw [taken_run h0] at h
    rw [taken_run (by rw [(beg_go h0).2]; exact h0), (run_app h _).1, (run_zero (go_colon b)).1]
    rfl
theorem label_same (l : List UInt8) : labelP l = labelD l := by
  unfold labelP labelD
  rcases cut_one_cases l 58 with ⟨hn, e⟩ | ⟨a, b, rfl, hn, e⟩
  · rw [e, if_neg (by simp), if_neg]
    intro h
    exact hn (List.mem_of_getElem? h)
  · rw [e]
    simp only [true_and]
    by_cases ht : takenD a = a.length
    · rw [if_pos ht, taken_colon ht, if_pos (by simp)]
      simp
    · rw [if_neg ht, if_neg]
      intro h
      obtain ⟨t, hte⟩ : ∃ t, (a ++ 58 :: b).take (takenD (a ++ 58 :: b)) = t := ⟨_, rfl⟩
      have hts := taken_self (a ++ 58 :: b)
      have hw := whole_taken (a ++ 58 :: b)
      have hle := taken_le (a ++ 58 :: b)
      rw [hte] at hts hw
      have htl : t.length = takenD (a ++ 58 :: b) := by rw [← hte, List.length_take]; omega
      have hlt : takenD (a ++ 58 :: b) < (a ++ 58 :: b).length := (List.getElem?_eq_some_iff.1 h).1
      have hsplit : a ++ 58 :: b = t ++ 58 :: (a ++ 58 :: b).drop (takenD (a ++ 58 :: b) + 1) := by
        have hd := List.drop_eq_getElem_cons hlt
        have hg : (a ++ 58 :: b)[takenD (a ++ 58 :: b)] = 58 := (List.getElem?_eq_some_iff.1 h).2
        rw [hg] at hd
        have := (List.take_append_drop (takenD (a ++ 58 :: b)) (a ++ 58 :: b)).symm
        rw [hd, hte] at this
        exact this
      have h2 := cut_one t ((a ++ 58 :: b).drop (takenD (a ++ 58 :: b) + 1)) 58 (name_no_colon hw)
      rw [← hsplit, e] at h2
      have hat : a = t := (Prod.mk.inj h2).1
      apply ht
      rw [hat, hts, htl]
theorem label_len (l : List UInt8) : (labelD l).length ≤ l.length := by
  unfold labelD
  split
  · rw [List.length_take]; omega
  · simp
theorem labels_app {ls : List (List UInt8)} (h : ls ≠ []) (s : List UInt8) : labelsD (ls ++ [s]) = if labelD s = [] then labelsD ls else labelsD ls ++ [labelD s] := by
  cases ls with
  | nil => exact absurd rfl h
  | cons a r =>
    unfold labelsD
    simp only [List.cons_append, List.drop_succ_cons, List.drop_zero, List.map_append, List.map_cons, List.map_nil, List.filter_append]
    by_cases hs : labelD s = []
    · rw [if_pos hs]; simp [hs]
    · rw [if_neg hs]; simp [hs]
theorem labels_one (s : List UInt8) : labelsD [s] = [] := rfl
theorem labels_nil : labelsD [] = [] := rfl
theorem take_step {α : Type} {ls : List (List α)} {k : Nat} (h : k < ls.length) : ls.take (k + 1) = ls.take k ++ [ls.getD k []] := by
  rw [List.take_add_one, List.getElem?_eq_getElem h]
  simp [List.getD, h]
theorem labels_step {ls : List (List UInt8)} {k : Nat} (h : k < ls.length) : labelsD (ls.take (k + 1)) = if k = 0 ∨ labelD (ls.getD k []) = [] then labelsD (ls.take k) else labelsD (ls.take k) ++ [labelD (ls.getD k [])] := by
  rw [take_step h]
  by_cases h0 : k = 0
  · subst h0
    rw [if_pos (.inl rfl), List.take_zero, List.nil_append, labels_one, labels_nil]
  · have hne : ls.take k ≠ [] := fun e => by
      have := congrArg List.length e
      rw [List.length_take, List.length_nil] at this
      omega
    rw [labels_app hne]
    by_cases hl : labelD (ls.getD k []) = []
    · rw [if_pos hl, if_pos (.inr hl)]
    · rw [if_neg hl, if_neg (fun e => e.elim h0 hl)]
theorem labels_ne {ls : List (List UInt8)} : ∀ s ∈ labelsD ls, s ≠ [] := fun s hs => by
  unfold labelsD at hs
  rw [List.mem_filter] at hs
  intro e
  rw [e] at hs
  exact absurd hs.2 (by decide)
theorem labels_len (ls : List (List UInt8)) : (labelsD ls).length ≤ ls.length := by
  unfold labelsD
  refine Nat.le_trans (List.length_filter_le _ _) ?_
  rw [List.length_map, List.length_drop]
  omega
theorem labels_each {ls : List (List UInt8)} {m : Nat} (h : ∀ s ∈ ls, s.length ≤ m) : ∀ s ∈ labelsD ls, s.length ≤ m := fun s hs => by
  unfold labelsD at hs
  rw [List.mem_filter, List.mem_map] at hs
  obtain ⟨⟨x, hx, rfl⟩, _⟩ := hs
  exact Nat.le_trans (label_len x) (h x (List.mem_of_mem_drop hx))

/-! ### right lines -/
theorem headL_iff {ls : List (List UInt8)} {h : Hd} : headL ls = some h ↔ ls ≠ [] ∧ ls.length ≤ 1000 ∧ ls.all lineD = true ∧ parseR (ls.getD 0 []) = some h ∧ (labelsD ls).all rightD = true ∧ unlB (allH h ++ labelsD ls) = true := by
  unfold headL
  constructor
  · intro k
    split at k
    · rename_i h1
      split at k
      · cases k
      · rename_i x hx
        split at k
        · rename_i h2
          cases k
          exact ⟨h1.1, h1.2.1, h1.2.2, hx, h2.1, h2.2⟩
        · cases k
    · cases k
  · rintro ⟨h1, h2, h3, h4, h5, h6⟩
    rw [if_pos ⟨h1, h2, h3⟩, h4]
    simp only
    rw [if_pos ⟨h5, h6⟩]
theorem unl_front {a b : List (List UInt8)} (h : unlB (a ++ b) = true) : unlB a = true := by
  have := unl_take h a.length
  rwa [List.take_left] at this
theorem unl_back {a b : List (List UInt8)} (h : unlB (a ++ b) = true) : unlB b = true := by
  rw [unl_iff] at h ⊢
  exact (List.pairwise_append.1 h).2.1
theorem unl_between {a b : List (List UInt8)} (h : unlB (a ++ b) = true) {x y : List UInt8} (hx : x ∈ a) (hy : y ∈ b) (h0 : y ≠ []) : y ≠ x := by
  rw [unl_iff] at h
  exact (List.pairwise_append.1 h).2.2 x hx y hy h0
theorem getD_front {ls : List (List UInt8)} (h : ls ≠ []) (s : List UInt8) : (ls ++ [s]).getD 0 [] = ls.getD 0 [] := by
  cases ls with
  | nil => exact absurd rfl h
  | cons a r => rfl
/-- a line more, without a label -/
theorem more_plain {ls : List (List UInt8)} {s : List UInt8} (h : ls ≠ []) (hn : ls.length ≤ 999) (hs : labelD s = []) : (headL (ls ++ [s])).isSome = ((headL ls).isSome && lineD s) := by
  have hl : labelsD (ls ++ [s]) = labelsD ls := by rw [labels_app h, if_pos hs]
  rw [Bool.eq_iff_iff, Bool.and_eq_true, Option.isSome_iff_exists, Option.isSome_iff_exists]
  constructor
  · rintro ⟨x, hx⟩
    obtain ⟨h1, h2, h3, h4, h5, h6⟩ := headL_iff.1 hx
    rw [List.all_append, Bool.and_eq_true] at h3
    rw [getD_front h] at h4
    rw [hl] at h5 h6
    exact ⟨⟨x, headL_iff.2 ⟨h, by omega, h3.1, h4, h5, h6⟩⟩, by simpa using h3.2⟩
  · rintro ⟨⟨x, hx⟩, h0⟩
    obtain ⟨h1, h2, h3, h4, h5, h6⟩ := headL_iff.1 hx
    refine ⟨x, headL_iff.2 ⟨by simp, by simp; omega, by rw [List.all_append, h3]; simpa using h0, by rw [getD_front h]; exact h4, by rw [hl]; exact h5, by rw [hl]; exact h6⟩⟩
/-- .. with one -/
theorem more_label {ls : List (List UInt8)} {s : List UInt8} (h : ls ≠ []) (hn : ls.length ≤ 999) (hs : labelD s ≠ []) : (!(headL (ls ++ [s])).isSome || (headL ls).isSome) = true := by
  have hl : labelsD (ls ++ [s]) = labelsD ls ++ [labelD s] := by rw [labels_app h, if_neg hs]
  cases hx : headL (ls ++ [s]) with
  | none => rfl
  | some x =>
    obtain ⟨h1, h2, h3, h4, h5, h6⟩ := headL_iff.1 hx
    rw [List.all_append, Bool.and_eq_true] at h3
    rw [getD_front h] at h4
    rw [hl, List.all_append, Bool.and_eq_true] at h5
    rw [hl, ← List.append_assoc] at h6
    rw [headL_iff.2 ⟨h, by omega, h3.1, h4, h5.1, unl_front h6⟩]
    rfl
/-- a header's text alone -/
theorem head_alone {h : Hd} (hl : (headD h).length ≤ 1000) : headL [headD h] = if rightH h = true then some h else none := by
  by_cases k : rightH h = true
  · rw [if_pos k, headL_iff, head_right k]
    rw [head_right k] at hl
    have hp := parseR_iff.2 ⟨k, rfl⟩
    refine ⟨by simp, by simp, by simpa using (okT_head k).line hl, hp, rfl, ?_⟩
    rw [labels_one, List.append_nil]
    exact (right_parts k).2.2.2.1
  · rw [if_neg k]
    cases hx : headL [headD h] with
    | none => rfl
    | some x =>
      obtain ⟨_, _, _, h4, _, _⟩ := headL_iff.1 hx
      obtain ⟨k1, k2⟩ := parseR_iff.1 h4
      exfalso
      have : (headD h) = [] := head_wrong (by simpa using k)
      rw [this] at k2
      exact text_ne k1 k2
/-- right lines -/
structure Good (ls : List (List UInt8)) (h : Hd) : Prop where
  parse : parseR (ls.getD 0 []) = some h
  right : rightD h.name = true
  each : ∀ s ∈ labelsD ls, rightD s = true ∧ s ≠ h.name ∧ s ≠ h.right
  unl : unlB (labelsD ls) = true
theorem good_of {ls : List (List UInt8)} {h : Hd} (k : headL ls = some h) : Good ls h := by
  obtain ⟨h1, h2, h3, h4, h5, h6⟩ := headL_iff.1 k
  exact ⟨h4, (right_parts (parseR_iff.1 h4).1).1, fun s hs => ⟨List.all_eq_true.1 h5 s hs, unl_between h6 (by simp [allH]) hs (labels_ne s hs), unl_between h6 (by simp [allH]) hs (labels_ne s hs)⟩, unl_back h6⟩

/-! ### lines joined, and split -/
theorem join_snoc : ∀ (q : List (List UInt8)) (x : List UInt8), joinD (q ++ [x]) = if q = [] then x else joinD q ++ 10 :: x
  | [], x => rfl
  | a :: r, x => by
    rw [if_neg (by simp)]
    show (if r ++ [x] = [] then a else a ++ 10 :: joinD (r ++ [x])) = _
    rw [if_neg (by simp), join_snoc r x]
    show _ = (if r = [] then a else a ++ 10 :: joinD r) ++ 10 :: x
    by_cases hr : r = []
    · rw [if_pos hr, if_pos hr]
    · rw [if_neg hr, if_neg hr]; simp
theorem join_split : ∀ (n : Nat) (s : List UInt8), s.length ≤ n → joinD (splitD 10 s) = s
  | n, s, hn => by
    rcases cut_one_cases s 10 with ⟨h, _⟩ | ⟨a, b, rfl, h, _⟩
    · rw [split_no h]; rfl
    · rw [split_at h]
      show (if splitD 10 b = [] then a else a ++ 10 :: joinD (splitD 10 b)) = _
      rw [if_neg (split_ne 10 b)]
      cases n with
      | zero => simp at hn
      | succ n => rw [join_split n b (by simp at hn; omega)]
theorem split_join : ∀ (ls : List (List UInt8)), ls ≠ [] → (∀ l ∈ ls, (10 : UInt8) ∉ l) → splitD 10 (joinD ls) = ls
  | [], h, _ => absurd rfl h
  | a :: r, _, h => by
    show splitD 10 (if r = [] then a else a ++ 10 :: joinD r) = _
    by_cases hr : r = []
    · rw [if_pos hr, hr, split_no (h a (by simp))]
    · rw [if_neg hr, split_at (h a (by simp)), split_join r hr fun l hl => h l (by simp [hl])]
/-- the library's sum of texts -/
theorem join_lib : ∀ (ls : List (List UInt8)), Go.Lib.join ls [10] = joinD ls
  | [] => rfl
  | [a] => Go.Lib.join_one _ _
  | a :: b :: r => by
    have h := join_lib (b :: r)
    rw [Go.Lib.join_cons] at h ⊢
    show _ = if b :: r = [] then a else a ++ 10 :: joinD (b :: r)
    rw [if_neg (by simp), ← h]
    simp [Go.Lib.joinTail]
def sumL : List (List UInt8) → Nat
  | [] => 0
  | l :: r => l.length + sumL r
theorem join_len : ∀ (ls : List (List UInt8)), (joinD ls).length ≤ sumL ls + ls.length
  | [] => by simp [joinD]
  | a :: r => by
    have := join_len r
    show (if r = [] then a else a ++ 10 :: joinD r).length ≤ a.length + sumL r + (r.length + 1)
    split
    · omega
    · simp only [List.length_append, List.length_cons]; omega
theorem sum_app (a b : List (List UInt8)) : sumL (a ++ b) = sumL a + sumL b := by
  induction a with
  | nil => simp [sumL]
  | cons x a ih => simp only [List.cons_append, sumL, ih]; omega
theorem sum_take (ls : List (List UInt8)) (k : Nat) : sumL (ls.take k) ≤ sumL ls := by
  have h : sumL (ls.take k ++ ls.drop k) = sumL ls := by rw [List.take_append_drop]
  rw [← h, sum_app]
  omega
theorem sum_each {ls : List (List UInt8)} : ∀ s ∈ ls, s.length ≤ sumL ls := by
  induction ls with
  | nil => simp
  | cons a r ih =>
    intro s hs
    show s.length ≤ a.length + sumL r
    rcases List.mem_cons.1 hs with rfl | hs
    · omega
    · have := ih s hs; omega
theorem sum_split : ∀ (n : Nat) (s : List UInt8), s.length ≤ n → sumL (splitD 10 s) ≤ s.length
  | n, s, hn => by
    rcases cut_one_cases s 10 with ⟨h, _⟩ | ⟨a, b, rfl, h, _⟩
    · rw [split_no h]; simp [sumL]
    · rw [split_at h]
      show a.length + sumL (splitD 10 b) ≤ _
      cases n with
      | zero => simp at hn
      | succ n =>
        have := sum_split n b (by simp at hn; omega)
        simp only [List.length_append, List.length_cons]
        omega
end Go.Proofs.YtcnijmmpkahoaaaDoor
