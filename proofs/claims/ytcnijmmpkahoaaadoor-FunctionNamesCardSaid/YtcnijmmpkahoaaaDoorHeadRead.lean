/-
  Texts of heads of functions read, as plain functions on bytes: the program's reader, the document's own. Nothing is claimed here by itself.
-/
import Derived.Test.YtcnijmmpkahoaaaDoorHeadMath
import Derived.Lib.Strings
namespace Go.Proofs.YtcnijmmpkahoaaaDoor
open Go.Lib (cut index count splitK occAt trimPrefix trimSuffix)
set_option linter.unusedSimpArgs false
set_option linter.unusedVariables false

/-- the first two words, and all that is left -/
def wordsD (s : List UInt8) : List UInt8 × List UInt8 × List UInt8 := ((cut s [32]).1, (cut (cut s [32]).2.1 [32]).1, (cut (cut s [32]).2.1 [32]).2.1)
def argsD (s : List UInt8) : List UInt8 × List UInt8 × List UInt8 := if (wordsD s).2.2 = [] then ([], (wordsD s).1, (wordsD s).2.1) else wordsD s
def locsD (s : List UInt8) : List (List UInt8) := if (cut s [59]).2.2 = true then splitD 59 (cut s [59]).2.1 else []
/-- what stands behind a result -/
def tailD (s : List UInt8) : List UInt8 := if (cut s arrowT).2.2 = true then (cut s arrowT).2.1 else s
def resD (s : List UInt8) : List UInt8 := if (cut s arrowT).2.2 = true then (cut s arrowT).1 else []
/-- the rest of a head: what the program makes of it -/
def bodyP (r : List UInt8) (t : List UInt8) (ls : List (List UInt8)) : Hd :=
  if (cut t [40]).2.2 = true then
    ⟨r, trimSuffix (cut t [40]).1 [32], (wordsD (cut (cut t [40]).2.1 [41]).1).2.1, trimPrefix (cut (cut t [40]).2.1 [41]).2.1 [32], (wordsD (cut (cut t [40]).2.1 [41]).1).1, (wordsD (cut (cut t [40]).2.1 [41]).1).2.2, ls⟩
  else ⟨r, (argsD t).1, (argsD t).2.1, (argsD t).2.2, [], [], ls⟩
def guessP (s : List UInt8) : Hd := bodyP (resD (cut s [59]).1) (tailD (cut s [59]).1) (locsD s)
/-- the rest of a head: what the document's own makes of it -/
def bodyR (r : List UInt8) (t : List UInt8) (ls : List (List UInt8)) : Hd :=
  if (cut t [40]).2.2 = true then
    ⟨r, (cut (cut t [40]).1 [32]).1, (splitD 32 (cut (cut t [40]).2.1 [41]).1).getD 1 [], (cut (cut (cut t [40]).2.1 [41]).2.1 [32]).2.1, (splitD 32 (cut (cut t [40]).2.1 [41]).1).getD 0 [], (splitD 32 (cut (cut t [40]).2.1 [41]).1).getD 2 [], ls⟩
  else if 2 < (splitD 32 t).length then ⟨r, (splitD 32 t).getD 0 [], (splitD 32 t).getD 1 [], (splitD 32 t).getD 2 [], [], [], ls⟩
  else ⟨r, [], (splitD 32 t).getD 0 [], (splitD 32 t).getD 1 [], [], [], ls⟩
def guessR (s : List UInt8) : Hd := bodyR (resD ((splitD 59 s).getD 0 [])) (tailD ((splitD 59 s).getD 0 [])) ((splitD 59 s).drop 1)

theorem trim_suf (l : List UInt8) : trimSuffix (partD [] l [32]) [32] = l := by
  unfold partD
  by_cases h : l = []
  · rw [if_pos h, h]; rfl
  · rw [if_neg h]
    unfold trimSuffix Go.Lib.hasSuffix
    rw [if_pos (List.isSuffixOf_iff_suffix.2 ⟨[] ++ l, rfl⟩)]
    simp
theorem trim_pre (r : List UInt8) : trimPrefix (32 :: r) [32] = r := by
  unfold trimPrefix Go.Lib.hasPrefix
  simp [List.isPrefixOf]

/-- a head's names, as bytes -/
structure Okd (h : Hd) : Prop where
  res : ∀ b ∈ h.res, nameB b = true
  left : ∀ b ∈ h.left, nameB b = true
  name : ∀ b ∈ h.name, nameB b = true
  right : ∀ b ∈ h.right, nameB b = true
  f : ∀ b ∈ h.f, nameB b = true
  g : ∀ b ∈ h.g, nameB b = true
  locs : ∀ l ∈ h.locs, ∀ b ∈ l, nameB b = true
  some : h.name ≠ []
  each : ∀ l ∈ h.locs, l ≠ []
  needR : h.right = [] → h.left = [] ∧ h.f = []
  needF : h.f = [] → h.g = []
theorem right_parts {h : Hd} (k : rightH h = true) : rightD h.name = true ∧ (mayH h).all mayD = true ∧ h.locs.all rightD = true ∧ unlB (allH h) = true ∧ shapeR h = false ∧ shapeG h = false := by
  unfold rightH at k
  simp only [Bool.and_eq_true, Bool.not_eq_true'] at k
  exact ⟨k.1.1.1.1, k.1.1.1.2, k.1.1.2, k.1.2, k.2.1, k.2.2⟩
theorem right_okd {h : Hd} (k : rightH h = true) : Okd h := by
  obtain ⟨k1, k2, k3, k4, k5, k6⟩ := right_parts k
  simp only [mayH, List.all_cons, List.all_nil, Bool.and_true, Bool.and_eq_true] at k2
  obtain ⟨m1, m2, m3, m4, m5⟩ := k2
  refine ⟨may_bytes m1, may_bytes m2, right_bytes k1, may_bytes m3, may_bytes m4, may_bytes m5, fun l hl => right_bytes (List.all_eq_true.1 k3 l hl), right_ne k1, fun l hl => right_ne (List.all_eq_true.1 k3 l hl), ?_, ?_⟩
  · intro e
    unfold shapeR at k5
    rw [e] at k5
    simpa using k5
  · intro e
    unfold shapeG at k6
    rw [e] at k6
    simpa using k6

theorem part_not {a w b : List UInt8} {c : UInt8} (hw : c ∉ w) (ha : c ∉ a) (hb : c ∉ b) : c ∉ partD a w b := by
  unfold partD
  split
  · simp
  · simp [ha, hw, hb]
theorem loc_not {ls : List (List UInt8)} {c : UInt8} (h : ∀ l ∈ ls, c ∉ l) (hc : c ≠ 59) : c ∉ locT ls := by
  induction ls with
  | nil => simp [locT]
  | cons l r ih =>
    unfold locT
    rw [List.mem_append]
    rintro (k | k)
    · exact part_not (h l (by simp)) (by simpa using hc) (by simp) k
    · exact ih (fun x hx => h x (by simp [hx])) k
theorem loc_cons {l : List UInt8} (r : List (List UInt8)) (h : l ≠ []) : locT (l :: r) = 59 :: (l ++ locT r) := by
  show partD [59] l [] ++ locT r = _
  simp [partD, h]
theorem split_loc : ∀ (r : List (List UInt8)) (l : List UInt8), 59 ∉ l → (∀ x ∈ r, 59 ∉ x ∧ x ≠ []) → splitD 59 (l ++ locT r) = l :: r
  | [], l, hl, _ => by
    rw [locT, List.append_nil, split_no hl]
  | x :: r, l, hl, h => by
    rw [loc_cons r (h x (by simp)).2, split_at hl, split_loc r x (h x (by simp)).1 (fun y hy => h y (by simp [hy]))]

section
variable {h : Hd}
theorem Okd.not (k : Okd h) {c : UInt8} (hc : nameB c = false) : c ∉ h.res ∧ c ∉ h.left ∧ c ∉ h.name ∧ c ∉ h.right ∧ c ∉ h.f ∧ c ∉ h.g ∧ ∀ l ∈ h.locs, c ∉ l :=
  ⟨not_in k.res hc, not_in k.left hc, not_in k.name hc, not_in k.right hc, not_in k.f hc, not_in k.g hc, fun l hl => not_in (k.locs l hl) hc⟩
/-- a head behind its result -/
def midT (h : Hd) : List UInt8 := partD [] h.left [32] ++ partD [40] h.f [32] ++ h.name ++ partD [32] h.g [] ++ (if h.f = [] then [] else [41]) ++ partD [32] h.right []
theorem front_mid (h : Hd) : frontT h = partD [] h.res arrowT ++ midT h := by
  unfold frontT midT
  simp only [List.append_assoc]
theorem mid_not (k : Okd h) {c : UInt8} (hc : nameB c = false) (h1 : c ≠ 32) (h2 : c ≠ 40) (h3 : c ≠ 41) : c ∉ midT h := by
  obtain ⟨n1, n2, n3, n4, n5, n6, n7⟩ := k.not hc
  unfold midT
  simp only [List.mem_append, not_or]
  refine ⟨⟨⟨⟨⟨part_not n2 (by simp) (by simpa using h1), part_not n5 (by simpa using h2) (by simpa using h1)⟩, n3⟩, part_not n6 (by simpa using h1) (by simp)⟩, ?_⟩, part_not n4 (by simpa using h1) (by simp)⟩
  split <;> simp [h3]
theorem front_not (k : Okd h) : (59 : UInt8) ∉ frontT h := by
  rw [front_mid, List.mem_append, not_or]
  exact ⟨part_not (k.not (c := 59) (by decide)).1 (by simp) (by decide), mid_not k (by decide) (by decide) (by decide) (by decide)⟩
theorem cut_front (k : Okd h) : (cut (textH h) [59]).1 = frontT h ∧ locsD (textH h) = h.locs := by
  have hn := front_not k
  unfold textH locsD
  have h7 := (k.not (c := 59) (by decide)).2.2.2.2.2.2
  cases hl : h.locs with
  | nil =>
    rw [locT, List.append_nil, cut_miss (by simp) hn]
    exact ⟨rfl, rfl⟩
  | cons l r =>
    rw [hl] at h7
    have he := k.each
    rw [hl] at he
    rw [loc_cons r (he l (by simp)), cut_one _ _ _ hn]
    refine ⟨rfl, ?_⟩
    simp only [if_true]
    exact split_loc r l (h7 l (by simp)) (fun x hx => ⟨h7 x (by simp [hx]), he x (by simp [hx])⟩)
theorem split_text (k : Okd h) : splitD 59 (textH h) = frontT h :: h.locs := by
  have h7 := (k.not (c := 59) (by decide)).2.2.2.2.2.2
  exact split_loc h.locs _ (front_not k) (fun x hx => ⟨h7 x hx, k.each x hx⟩)
theorem res_tail (k : Okd h) : resD (frontT h) = h.res ∧ tailD (frontT h) = midT h := by
  have hm : (144 : UInt8) ∉ midT h := mid_not k (by decide) (by decide) (by decide) (by decide)
  have hr := (k.not (c := 144) (by decide)).1
  rw [front_mid]
  unfold resD tailD partD
  by_cases h0 : h.res = []
  · rw [if_pos h0, List.nil_append, cut_miss (c := 144) (by decide) hm, h0]
    exact ⟨rfl, rfl⟩
  · rw [if_neg h0]
    have e : ([] ++ h.res ++ arrowT) ++ midT h = h.res ++ (([226, 134] ++ [144]) ++ midT h) := by simp [arrowT]
    have e2 : cut (([] ++ h.res ++ arrowT) ++ midT h) arrowT = (h.res, midT h, true) := by
      rw [e]
      exact cut_hit h.res (midT h) [226, 134] 144 hr (by decide)
    rw [e2]
    exact ⟨rfl, rfl⟩
theorem hd_eta (h : Hd) : (⟨h.res, h.left, h.name, h.right, h.f, h.g, h.locs⟩ : Hd) = h := rfl

theorem mid_plain (k : Okd h) (hf : h.f = []) : midT h = partD [] h.left [32] ++ h.name ++ partD [32] h.right [] := by
  unfold midT
  rw [k.needF hf, hf]
  simp [partD]
theorem mid_open (k : Okd h) (hf : h.f ≠ []) : midT h = partD [] h.left [32] ++ 40 :: ((h.f ++ 32 :: (h.name ++ partD [32] h.g [])) ++ 41 :: 32 :: h.right) := by
  have hr : h.right ≠ [] := fun e => hf (k.needR e).2
  unfold midT
  simp [partD, hf, hr]
theorem plain_miss (k : Okd h) (hf : h.f = []) : cut (midT h) [40] = (midT h, [], false) := by
  obtain ⟨n1, n2, n3, n4, n5, n6, n7⟩ := k.not (c := 40) (by decide)
  refine cut_miss (c := 40) (by simp) ?_
  rw [mid_plain k hf]
  simp only [List.mem_append, not_or]
  exact ⟨⟨part_not n2 (by simp) (by decide), n3⟩, part_not n4 (by decide) (by simp)⟩
theorem open_hit (k : Okd h) (hf : h.f ≠ []) : cut (midT h) [40] = (partD [] h.left [32], (h.f ++ 32 :: (h.name ++ partD [32] h.g [])) ++ 41 :: 32 :: h.right, true) := by
  obtain ⟨n1, n2, n3, n4, n5, n6, n7⟩ := k.not (c := 40) (by decide)
  rw [mid_open k hf]
  exact cut_one _ _ _ (part_not n2 (by simp) (by decide))
theorem open_shut (k : Okd h) : cut ((h.f ++ 32 :: (h.name ++ partD [32] h.g [])) ++ 41 :: 32 :: h.right) [41] = (h.f ++ 32 :: (h.name ++ partD [32] h.g []), 32 :: h.right, true) := by
  obtain ⟨n1, n2, n3, n4, n5, n6, n7⟩ := k.not (c := 41) (by decide)
  refine cut_one _ _ _ ?_
  simp only [List.mem_append, List.mem_cons, not_or]
  exact ⟨n5, by decide, n3, part_not n6 (by decide) (by simp)⟩
theorem open_words (k : Okd h) : wordsD (h.f ++ 32 :: (h.name ++ partD [32] h.g [])) = (h.f, h.name, h.g) ∧ (splitD 32 (h.f ++ 32 :: (h.name ++ partD [32] h.g []))).getD 0 [] = h.f ∧ (splitD 32 (h.f ++ 32 :: (h.name ++ partD [32] h.g []))).getD 1 [] = h.name ∧ (splitD 32 (h.f ++ 32 :: (h.name ++ partD [32] h.g []))).getD 2 [] = h.g := by
  obtain ⟨n1, n2, n3, n4, n5, n6, n7⟩ := k.not (c := 32) (by decide)
  unfold wordsD
  rw [cut_one _ _ _ n5, split_at n5]
  by_cases hg : h.g = []
  · rw [hg]
    simp only [partD, if_true, List.append_nil]
    rw [cut_miss (by simp) n3, split_no n3]
    exact ⟨rfl, rfl, rfl, rfl⟩
  · have e : h.name ++ partD [32] h.g [] = h.name ++ 32 :: h.g := by simp [partD, hg]
    rw [e, cut_one _ _ _ n3, split_at n3, split_no n6]
    exact ⟨rfl, rfl, rfl, rfl⟩

theorem body_back (k : Okd h) : bodyP h.res (midT h) h.locs = h ∧ bodyR h.res (midT h) h.locs = h := by
  obtain ⟨n1, n2, n3, n4, n5, n6, n7⟩ := k.not (c := 32) (by decide)
  by_cases hf : h.f = []
  · have hg := k.needF hf
    unfold bodyP bodyR
    rw [plain_miss k hf, mid_plain k hf]
    simp only [Bool.false_eq_true, if_false]
    unfold argsD wordsD
    by_cases hl : h.left = []
    · by_cases hr : h.right = []
      · have e : partD [] h.left [32] ++ h.name ++ partD [32] h.right [] = h.name := by rw [hl, hr]; simp [partD]
        rw [e, cut_miss (by simp) n3, split_no n3]
        rw [← hd_eta h, hl, hr, hf, hg]
        exact ⟨rfl, rfl⟩
      · have e : partD [] h.left [32] ++ h.name ++ partD [32] h.right [] = h.name ++ 32 :: h.right := by rw [hl]; simp [partD, hr]
        rw [e, cut_one _ _ _ n3, split_at n3, split_no n4]
        simp only
        rw [cut_miss (by simp) n4]
        rw [← hd_eta h, hl, hf, hg]
        exact ⟨rfl, rfl⟩
    · have hr : h.right ≠ [] := fun e => hl (k.needR e).1
      have e : partD [] h.left [32] ++ h.name ++ partD [32] h.right [] = h.left ++ 32 :: (h.name ++ 32 :: h.right) := by simp [partD, hr, hl]
      rw [e, cut_one _ _ _ n2, split_at n2, split_at n3, split_no n4]
      simp only
      rw [cut_one _ _ _ n3]
      rw [if_neg hr]
      rw [← hd_eta h, hf, hg]
      exact ⟨rfl, rfl⟩
  · unfold bodyP bodyR
    rw [open_hit k hf]
    simp only [if_true]
    rw [open_shut k]
    simp only
    obtain ⟨w1, w2, w3, w4⟩ := open_words k
    rw [w1, w2, w3, w4, trim_suf, trim_pre]
    have e1 : (cut (partD [] h.left [32]) [32]).1 = h.left := by
      by_cases hl : h.left = []
      · rw [hl]; rfl
      · have e : partD [] h.left [32] = h.left ++ 32 :: [] := by simp [partD, hl]
        rw [e, cut_one _ _ _ n2]
    have e2 : (cut (32 :: h.right) [32]).2.1 = h.right := by
      have := cut_one [] h.right 32 (by simp)
      rw [List.nil_append] at this
      rw [this]
    rw [e1, e2]
    exact ⟨rfl, rfl⟩
end
theorem guessP_back {h : Hd} (k : rightH h = true) : guessP (textH h) = h := by
  have o := right_okd k
  obtain ⟨h1, h2⟩ := cut_front o
  obtain ⟨h3, h4⟩ := res_tail o
  unfold guessP
  rw [h1, h2, h3, h4]
  exact (body_back o).1
theorem guessR_back {h : Hd} (k : rightH h = true) : guessR (textH h) = h := by
  have o := right_okd k
  obtain ⟨h3, h4⟩ := res_tail o
  unfold guessR
  rw [split_text o]
  show bodyR (resD (frontT h)) (tailD (frontT h)) h.locs = h
  rw [h3, h4]
  exact (body_back o).2

/-- P15.2: the program's reader, the document's own -/
def parseP (s : List UInt8) : Option Hd := if s ≠ [] ∧ headD (guessP s) = s then some (guessP s) else none
def parseR (s : List UInt8) : Option Hd := if s ≠ [] ∧ headD (guessR s) = s then some (guessR s) else none
theorem front_ne {h : Hd} (k : h.name ≠ []) : textH h ≠ [] := by
  intro e
  unfold textH frontT at e
  simp only [List.append_eq_nil_iff] at e
  exact k e.1.1.1.1.2
theorem text_ne {h : Hd} (k : rightH h = true) : textH h ≠ [] := front_ne (right_okd k).some
theorem head_right {h : Hd} (k : rightH h = true) : headD h = textH h := by unfold headD; rw [if_pos k]
theorem head_wrong {h : Hd} (k : rightH h = false) : headD h = [] := by unfold headD; rw [if_neg (by rw [k]; decide)]
theorem head_ne {h : Hd} : headD h ≠ [] ↔ rightH h = true := by
  constructor
  · intro h0
    by_cases k : rightH h = true
    · exact k
    · exact absurd (head_wrong (by simpa using k)) h0
  · intro k
    rw [head_right k]
    exact text_ne k
theorem parseP_iff {s : List UInt8} {h : Hd} : parseP s = some h ↔ rightH h = true ∧ textH h = s := by
  unfold parseP
  constructor
  · intro k
    split at k
    · rename_i hs
      cases k
      have hr : rightH (guessP s) = true := head_ne.1 (by rw [hs.2]; exact hs.1)
      exact ⟨hr, by rw [← head_right hr]; exact hs.2⟩
    · cases k
  · rintro ⟨hr, rfl⟩
    rw [guessP_back hr, if_pos ⟨text_ne hr, head_right hr⟩]
theorem parseR_iff {s : List UInt8} {h : Hd} : parseR s = some h ↔ rightH h = true ∧ textH h = s := by
  unfold parseR
  constructor
  · intro k
    split at k
    · rename_i hs
      cases k
      have hr : rightH (guessR s) = true := head_ne.1 (by rw [hs.2]; exact hs.1)
      exact ⟨hr, by rw [← head_right hr]; exact hs.2⟩
    · cases k
  · rintro ⟨hr, rfl⟩
    rw [guessR_back hr, if_pos ⟨text_ne hr, head_right hr⟩]
/-- they are the same -/
theorem parse_same (s : List UInt8) : parseP s = parseR s := by
  cases h : parseR s with
  | some x => exact parseP_iff.2 (parseR_iff.1 h)
  | none =>
    cases h2 : parseP s with
    | none => rfl
    | some x => rw [parseR_iff.2 (parseP_iff.1 h2)] at h; cases h
end Go.Proofs.YtcnijmmpkahoaaaDoor
