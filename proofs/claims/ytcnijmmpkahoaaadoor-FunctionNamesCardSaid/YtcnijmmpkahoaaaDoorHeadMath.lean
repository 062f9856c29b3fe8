/-
  Heads of functions, as plain functions on bytes. Nothing is claimed here by itself.
-/
import Derived.Test.YtcnijmmpkahoaaaDoorLMath
import Derived.Lib.Split
import Derived.Lib.SplitLaws
namespace Go.Proofs.YtcnijmmpkahoaaaDoor
open Go.Lib (cut index count splitK occAt)
set_option linter.unusedSimpArgs false
set_option linter.unusedVariables false

/-- a head's names -/
structure Hd where
  res : List UInt8
  left : List UInt8
  name : List UInt8
  right : List UInt8
  f : List UInt8
  g : List UInt8
  locs : List (List UInt8)
deriving DecidableEq
def hd0 : Hd := ⟨[], [], [], [], [], [], []⟩
def allH (h : Hd) : List (List UInt8) := h.res :: h.left :: h.name :: h.right :: h.f :: h.g :: h.locs
theorem allH_inj {a b : Hd} (h : allH a = allH b) : a = b := by
  cases a; cases b
  simp only [allH, List.cons.injEq] at h
  obtain ⟨h1, h2, h3, h4, h5, h6, h7⟩ := h
  skip
  subst h1 h2 h3 h4 h5 h6 h7
  rfl
def mayD (l : List UInt8) : Bool := l.isEmpty || rightD l
/-- the names that may be missing -/
def mayH (h : Hd) : List (List UInt8) := [h.res, h.left, h.right, h.f, h.g]
def shapeR (h : Hd) : Bool := h.right.isEmpty && (!h.left.isEmpty || !h.f.isEmpty)
def shapeG (h : Hd) : Bool := h.f.isEmpty && !h.g.isEmpty
/-- P15.1 -/
def rightH (h : Hd) : Bool := rightD h.name && (mayH h).all mayD && h.locs.all rightD && unlB (allH h) && (!shapeR h && !shapeG h)

/-- what a piece comes to: nothing, where the name is empty -/
def partD (a w b : List UInt8) : List UInt8 := if w = [] then [] else a ++ w ++ b
def locT : List (List UInt8) → List UInt8
  | [] => []
  | l :: r => partD [59] l [] ++ locT r
def arrowT : List UInt8 := [226, 134, 144]
def frontT (h : Hd) : List UInt8 := partD [] h.res arrowT ++ partD [] h.left [32] ++ partD [40] h.f [32] ++ h.name ++ partD [32] h.g [] ++ (if h.f = [] then [] else [41]) ++ partD [32] h.right []
def textH (h : Hd) : List UInt8 := frontT h ++ locT h.locs
/-- P15.1 -/
def headD (h : Hd) : List UInt8 := if rightH h = true then textH h else []

/-! ### likeness does not look at the order -/
def Like (a b : List UInt8) : Prop := a = b → a = []
theorem like_symm {a b : List UInt8} (h : Like a b) : Like b a := fun e => by rw [e]; exact h e.symm
theorem apart_like {ls : List (List UInt8)} : Apart ls ↔ ls.Pairwise Like := by
  unfold Apart Like
  constructor
  · exact fun h => h.imp fun {a b} k e => by
      by_cases hb : b = []
      · rw [e]; exact hb
      · exact absurd e.symm (k hb)
  · exact fun h => h.imp fun {a b} k hb e => hb (by rw [e]; exact k e.symm)
theorem unl_perm {a b : List (List UInt8)} (h : a.Perm b) : unlB a = unlB b := by
  rw [Bool.eq_iff_iff, unl_iff, unl_iff, apart_like, apart_like]
  exact h.pairwise_iff (fun {x y} k => like_symm k)
theorem unl_prog (h : Hd) : unlB ([h.name] ++ (mayH h ++ h.locs)) = unlB (allH h) := by
  apply unl_perm
  show (h.name :: h.res :: h.left :: h.right :: h.f :: h.g :: h.locs).Perm (h.res :: h.left :: h.name :: h.right :: h.f :: h.g :: h.locs)
  exact (List.Perm.swap _ _ _).trans ((List.Perm.swap _ _ _).cons _)

/-! ### the bytes of names -/
def nameB (b : UInt8) : Bool := (48 ≤ b.toNat && b.toNat ≤ 57) || (65 ≤ b.toNat && b.toNat ≤ 90) || (97 ≤ b.toNat && b.toNat ≤ 122) || b == 95 || b == 226 || b == 136 || b == 134 || b == 141 || b == 153 || b == 194 || b == 175
theorem run_bytes : ∀ (l : List UInt8), run l = l.length → ∀ b ∈ l, nameB b = true
  | [], _ => by simp
  | x :: l, h => by
    have hn : goW (x :: l) ≠ 0 := fun e => by
      rw [run_step, if_pos e] at h
      simp at h
    have hg := go_le (x :: l)
    have h' := h
    rw [run_step, if_neg hn] at h'
    have hlt : ((x :: l).drop (goW (x :: l))).length < (x :: l).length := by rw [List.length_drop]; omega
    have ih := run_bytes ((x :: l).drop (goW (x :: l))) (by rw [List.length_drop]; omega)
    intro b hb
    rw [← List.take_append_drop (goW (x :: l)) (x :: l)] at hb
    rcases List.mem_append.1 hb with hb | hb
    · rcases go_cases (x :: l) with h0 | ⟨c, r, e, hc⟩ | ⟨r, e⟩ | ⟨c, r, e, hc⟩ | ⟨r, e⟩ | ⟨r, e⟩
      · exact absurd h0.1 hn
      · rw [e, go_dig hc] at hb
        have hd := digB_iff.1 hc
        simp at hb
        subst hb
        simp [nameB, hd]
      · rw [e, go_over] at hb
        simp at hb
        rcases hb with rfl | rfl <;> decide
      · rw [e, (beg_byte hc r).2] at hb
        have hd := begB_iff.1 hc
        simp at hb
        subst hb
        rcases hd with h1 | h1 | h1
        · simp [nameB, h1]
        · simp [nameB, h1]
        · have : b = 95 := by apply UInt8.toNat_inj.1; simpa using h1
          subst this
          decide
      · rw [e, (beg_del r).2] at hb
        simp at hb
        rcases hb with rfl | rfl | rfl <;> decide
      · rw [e, (beg_und r).2] at hb
        simp at hb
        rcases hb with rfl | rfl | rfl <;> decide
    · exact ih b hb
  termination_by l => l.length
  decreasing_by exact hlt
theorem right_bytes {l : List UInt8} (h : rightD l = true) : ∀ b ∈ l, nameB b = true := run_bytes l (right_iff.1 h).2.1
theorem right_ne {l : List UInt8} (h : rightD l = true) : l ≠ [] := (right_taken h).2
theorem may_bytes {l : List UInt8} (h : mayD l = true) : ∀ b ∈ l, nameB b = true := by
  unfold mayD at h
  rw [Bool.or_eq_true] at h
  rcases h with h | h
  · have : l = [] := by simpa using h
    subst this
    simp
  · exact right_bytes h
theorem not_in {l : List UInt8} (h : ∀ b ∈ l, nameB b = true) {c : UInt8} (hc : nameB c = false) : c ∉ l := fun hm => by
  have := h c hm
  rw [hc] at this
  cases this

/-! ### cuts -/
theorem occ_mem {s sub : List UInt8} {i : Nat} (h : occAt s sub i = true) {c : UInt8} (hc : c ∈ sub) : c ∈ s := by
  unfold occAt at h
  exact List.mem_of_mem_drop ((List.isPrefixOf_iff_prefix.1 h).subset hc)
theorem cut_miss {s sep : List UInt8} {c : UInt8} (hc : c ∈ sep) (hs : c ∉ s) : cut s sep = (s, [], false) := by
  have h : index s sep = -1 := Go.Lib.index_none fun j _ => by
    rw [Bool.eq_false_iff]
    exact fun h => hs (occ_mem h hc)
  unfold cut
  rw [h, if_neg (by decide)]
theorem cut_at {s sep : List UInt8} {i : Nat} (hi : i ≤ s.length) (ho : occAt s sep i = true) (hn : ∀ j, j < i → occAt s sep j = false) : cut s sep = (s.take i, s.drop (i + sep.length), true) := by
  have h := Go.Lib.index_first hi ho hn
  unfold cut
  rw [h, if_pos (by omega)]
  simp
theorem cut_none {s sep : List UInt8} (h : ∀ j, j ≤ s.length → occAt s sep j = false) : cut s sep = (s, [], false) := by
  have h := Go.Lib.index_none h
  unfold cut
  rw [h, if_neg (by decide)]
/-- the first place of a byte that ends the separator -/
theorem cut_hit (a b p : List UInt8) (c : UInt8) (ha : c ∉ a) (hp : c ∉ p) : cut (a ++ ((p ++ [c]) ++ b)) (p ++ [c]) = (a, b, true) := by
  have h := cut_at (s := a ++ ((p ++ [c]) ++ b)) (sep := p ++ [c]) (i := a.length) (by simp) (by
    unfold occAt
    rw [List.drop_left]
    exact List.isPrefixOf_iff_prefix.2 ⟨b, rfl⟩) (fun j hj => by
    rw [Bool.eq_false_iff]
    intro h
    unfold occAt at h
    have h1 := List.isPrefixOf_iff_prefix.1 h
    obtain ⟨t, ht⟩ := h1
    have h2 : (a ++ ((p ++ [c]) ++ b))[j + p.length]? = some c := by
      have : ((a ++ ((p ++ [c]) ++ b)).drop j)[p.length]? = some c := by
        rw [← ht]
        simp
      simpa [List.getElem?_drop] using this
    by_cases hl : j + p.length < a.length
    · rw [List.getElem?_append_left hl] at h2
      exact ha (List.mem_of_getElem? h2)
    · rw [List.getElem?_append_right (by omega), List.append_assoc, List.getElem?_append_left (by omega)] at h2
      exact hp (List.mem_of_getElem? h2))
  rw [h, List.take_left]
  congr 2
  rw [← List.drop_drop, List.drop_left, List.drop_left]
theorem cut_one (a b : List UInt8) (c : UInt8) (ha : c ∉ a) : cut (a ++ c :: b) [c] = (a, b, true) := cut_hit a b [] c ha (by simp)
theorem cut_one_cases (s : List UInt8) (c : UInt8) : (c ∉ s ∧ cut s [c] = (s, [], false)) ∨ ∃ a b, s = a ++ c :: b ∧ c ∉ a ∧ cut s [c] = (a, b, true) := by
  by_cases h : c ∈ s
  · right
    obtain ⟨a, b, e, hn⟩ := List.eq_append_cons_of_mem h
    exact ⟨a, b, e, hn, by rw [e]; exact cut_one a b c hn⟩
  · exact .inl ⟨h, cut_miss (by simp) h⟩
theorem cut_len (s sep : List UInt8) : (cut s sep).1.length ≤ s.length ∧ (cut s sep).2.1.length ≤ s.length := by
  unfold cut
  split
  · simp only [List.length_take, List.length_drop]; omega
  · simp

/-! ### pieces between signs -/
def splitF (c : UInt8) : Nat → List UInt8 → List (List UInt8)
  | 0, s => [s]
  | k + 1, s => if (cut s [c]).2.2 = true then (cut s [c]).1 :: splitF c k (cut s [c]).2.1 else [s]
def splitD (c : UInt8) (s : List UInt8) : List (List UInt8) := splitF c s.length s
theorem splitF_enough (c : UInt8) : ∀ (k : Nat) (s : List UInt8), s.length ≤ k → splitF c k s = splitF c s.length s
  | 0, s, h => by obtain rfl : s = [] := List.eq_nil_of_length_eq_zero (by omega)
                  rfl
  | k + 1, s, h => by
    rcases cut_one_cases s c with ⟨hn, e⟩ | ⟨a, b, rfl, hn, e⟩
    · have h1 : ∀ j, splitF c j s = [s] := fun j => by
        cases j with
        | zero => rfl
        | succ j => rw [splitF, e]; rfl
      rw [h1, h1]
    · obtain ⟨n, hl⟩ : ∃ n, (a ++ c :: b).length = n + 1 := ⟨a.length + b.length, by simp; omega⟩
      have hb : b.length ≤ n := by simp at hl; omega
      rw [hl] at h ⊢
      rw [splitF, splitF, e]
      simp only [if_true]
      rw [splitF_enough c k b (by omega), splitF_enough c n b hb]
theorem split_no {c : UInt8} {s : List UInt8} (h : c ∉ s) : splitD c s = [s] := by
  unfold splitD
  cases hk : s.length with
  | zero => rfl
  | succ k => rw [splitF, cut_miss (by simp) h]; rfl
theorem split_at {c : UInt8} {a b : List UInt8} (h : c ∉ a) : splitD c (a ++ c :: b) = a :: splitD c b := by
  unfold splitD
  obtain ⟨n, hl⟩ : ∃ n, (a ++ c :: b).length = n + 1 := ⟨a.length + b.length, by simp; omega⟩
  have hb : b.length ≤ n := by simp at hl; omega
  rw [hl, splitF, cut_one a b c h]
  simp only [if_true]
  rw [splitF_enough c n b hb]
theorem split_step (c : UInt8) (s : List UInt8) : splitD c s = if (cut s [c]).2.2 = true then (cut s [c]).1 :: splitD c (cut s [c]).2.1 else [(cut s [c]).1] := by
  rcases cut_one_cases s c with ⟨hn, e⟩ | ⟨a, b, rfl, hn, e⟩
  · rw [e, split_no hn]; rfl
  · rw [e, split_at hn]; rfl
theorem split_ne (c : UInt8) (s : List UInt8) : splitD c s ≠ [] := by
  rw [split_step]
  split <;> simp
/-- the library's pieces -/
theorem splitK_is (c : UInt8) : ∀ (k : Nat) (s : List UInt8), count s [c] = k → splitK [c] 0 k s = splitD c s
  | 0, s, h => by
    rw [Go.Lib.count_one] at h
    rw [split_no (by rw [List.count_eq_zero] at h; exact h)]
    rfl
  | k + 1, s, h => by
    rw [Go.Lib.count_one] at h
    have hm : c ∈ s := List.count_pos_iff.1 (by omega)
    obtain ⟨a, b, rfl, hn⟩ := List.eq_append_cons_of_mem hm
    have hx : index (a ++ c :: b) [c] = a.length := by
      refine Go.Lib.index_first (by simp) (by unfold occAt; rw [List.drop_left]; simp) (fun j hj => ?_)
      rw [Bool.eq_false_iff]
      intro h
      have h1 := Go.Lib.occAt_head (t := []) rfl h
      rw [List.getElem?_append_left hj] at h1
      exact hn (List.mem_of_getElem? h1)
    have hb : b.count c = k := by
      rw [List.count_append, List.count_eq_zero.2 hn] at h
      simp at h
      exact h
    rw [split_at hn, splitK, hx, if_neg (by rw [beq_iff_eq]; omega)]
    have e1 : ((a.length : Int)).toNat = a.length := by omega
    rw [e1, Nat.add_zero, List.take_left, ← List.drop_drop, List.drop_left]
    rw [show (c :: b).drop ([c] : List UInt8).length = b from rfl, splitK_is c k b (by rw [Go.Lib.count_one]; exact hb)]
theorem split_len (c : UInt8) : ∀ (k : Nat) (s : List UInt8), s.length ≤ k → (splitD c s).length ≤ s.length + 1 ∧ ∀ x ∈ splitD c s, x.length ≤ s.length
  | 0, s, h => by
    obtain rfl : s = [] := List.eq_nil_of_length_eq_zero (by omega)
    rw [split_no (by simp)]
    simp
  | k + 1, s, h => by
    rcases cut_one_cases s c with ⟨hn, e⟩ | ⟨a, b, rfl, hn, e⟩
    · rw [split_no hn]; simp
    · rw [split_at hn]
      have hl : (a ++ c :: b).length = a.length + b.length + 1 := by simp; omega
      rw [hl] at h ⊢
      obtain ⟨i1, i2⟩ := split_len c k b (by omega)
      refine ⟨by rw [List.length_cons]; omega, fun x hx => ?_⟩
      rcases List.mem_cons.1 hx with rfl | hx
      · omega
      · have := i2 x hx; omega
end Go.Proofs.YtcnijmmpkahoaaaDoor
