/-
  A row of nodes of one's own, in which a field is written. Nothing is claimed here by itself.
-/
import Derived.Test.YtfdlngcaopcaoaaCuts
import Derived.Test.YtfdlngcaopcaoaaRaw
import Derived.ArgAppend
import Derived.Laws.BitsAllLaws
namespace Go.Proofs.Ytfdlngcaopcaoaa
open Go.RowKit Go.Lib
set_option linter.unusedSimpArgs false
set_option linter.unusedVariables false

/-- node number i of a row, whose rows lie in blocks of T -/
def HeldN (T : Nat → Prop) (w : World) (f : Nat → Value) (i : Nat) (n : Nd) : Prop :=
  ∃ A1 c1 A2 c2 A3 c3, f (i * 4) = .int .i64 n.kind ∧ f (i * 4 + 1) = .slice A1 n.shp.length c1 ∧ f (i * 4 + 2) = .slice A2 n.ints.length c2 ∧ f (i * 4 + 3) = .slice A3 n.decs.length c3 ∧ NumsT T w A1 n.shp ∧ NumsT T w A2 n.ints ∧ DecsT T w A3 n.decs
/-- the row is block g, all else lies in blocks of T -/
def Held (T : Nat → Prop) (w : World) (g : Nat) (ns : List Nd) : Prop := ¬ T g ∧ ∃ f, w.rowIs g 32 (ns.length * 4) f ∧ ∀ i, i < ns.length → HeldN T w f i (ns.getD i nd0)
section
variable {T T' : Nat → Prop} {w w' : World} {g : Nat} {ns : List Nd}
theorem HeldN.keep {f f' : Nat → Value} {i : Nat} {n : Nd} (h : HeldN T w f i n) (hk : ∀ b, T b → T' b ∧ w'.heap[b]? = w.heap[b]?) (hf : ∀ j, i * 4 ≤ j → j < i * 4 + 4 → f' j = f j) : HeldN T' w' f' i n := by
  obtain ⟨A1, c1, A2, c2, A3, c3, h0, h1, h2, h3, n1, n2, n3⟩ := h
  exact ⟨A1, c1, A2, c2, A3, c3, by rw [hf _ (by omega) (by omega), h0], by rw [hf _ (by omega) (by omega), h1], by rw [hf _ (by omega) (by omega), h2], by rw [hf _ (by omega) (by omega), h3], n1.keep hk, n2.keep hk, n3.keep hk⟩
theorem Held.keep (h : Held T w g ns) (hg : ¬ T' g) (hk0 : w'.heap[g]? = w.heap[g]?) (hk : ∀ b, T b → T' b ∧ w'.heap[b]? = w.heap[b]?) : Held T' w' g ns := by
  obtain ⟨_, f, hr, hn⟩ := h
  exact ⟨hg, f, hr.of_block hk0, fun i hi => (hn i hi).keep hk (fun _ _ _ => rfl)⟩
theorem Held.lt (h : Held T w g ns) : g < w.heap.size := by obtain ⟨_, f, hr, hn⟩ := h; exact hr.lt
theorem Held.nodes (h : Held T w g ns) : Nodes w w.heap.size (some ⟨g, 0, none⟩) ns := fun _ => by
  obtain ⟨_, f, hr, hn⟩ := h
  refine ⟨g, 0, rfl, hr.lt, fun i hi => ?_⟩
  obtain ⟨A1, c1, A2, c2, A3, c3, h0, h1, h2, h3, n1, n2, n3⟩ := hn i hi
  exact ⟨A1, c1, A2, c2, A3, c3, by rw [Nat.zero_add, hr.cell (by omega), h0], by rw [Nat.zero_add, hr.cell (by omega), h1], by rw [Nat.zero_add, hr.cell (by omega), h2], by rw [Nat.zero_add, hr.cell (by omega), h3], n1.nums, n2.nums, n3.decs⟩
theorem getD_set {k i : Nat} {n : Nd} (h : i < ns.length) : (ns.set k n).getD i nd0 = if i = k then n else ns.getD i nd0 := by
  simp only [List.getD, List.getElem?_set]
  by_cases e : i = k
  · subst e; simp [h]
  · simp [e, Ne.symm e]
theorem Held.set (h : Held T w g ns) {k r : Nat} (hk : k < ns.length) (hr4 : r < 4) (v : Value) (n : Nd)
    (hn : ∀ f, HeldN T w f k (ns.getD k nd0) → HeldN T w (fun j => if j = k * 4 + r then v else f j) k n) : Held T (w.setCell ⟨g, k * 4 + r, none⟩ v) g (ns.set k n) := by
  obtain ⟨hg, f, hr, hns⟩ := h
  have hkT : ∀ b, T b → T b ∧ (w.setCell ⟨g, k * 4 + r, none⟩ v).heap[b]? = w.heap[b]? := fun b hb => ⟨hb, heap_setCell_other w ⟨g, k * 4 + r, none⟩ b v (fun e => hg (by have e' : b = g := e; rw [← e']; exact hb))⟩
  refine ⟨hg, fun j => if j = k * 4 + r then v else f j, ?_, fun i hi => ?_⟩
  · rw [List.length_set]; exact hr.set (k * 4 + r) v
  · rw [List.length_set] at hi
    rw [getD_set hi]
    by_cases e : i = k
    · subst e
      rw [if_pos rfl]
      exact (hn f (hns i hi)).keep hkT (fun _ _ _ => rfl)
    · rw [if_neg e]
      exact (hns i hi).keep hkT (fun j h1 h2 => by
        have : ¬ j = k * 4 + r := by omega
        simp [this])
theorem Held.set_kind (h : Held T w g ns) {k : Nat} (hk : k < ns.length) (q : Int) :
    Held T (w.setCell ⟨g, k * 4, none⟩ (.int .i64 q)) g (ns.set k ⟨q, (ns.getD k nd0).shp, (ns.getD k nd0).ints, (ns.getD k nd0).decs⟩) := by
  refine h.set (r := 0) hk (by decide) _ _ fun f hf => ?_
  obtain ⟨A1, c1, A2, c2, A3, c3, h0, h1, h2, h3, n1, n2, n3⟩ := hf
  exact ⟨A1, c1, A2, c2, A3, c3, by simp, by simp [h1], by simp [h2], by simp [h3], n1, n2, n3⟩
theorem Held.set_shp (h : Held T w g ns) {k : Nat} (hk : k < ns.length) (A : Option Addr) (l c : Nat) (q : List Int) (hl : q.length = l) (hq : NumsT T w A q) :
    Held T (w.setCell ⟨g, k * 4 + 1, none⟩ (.slice A l c)) g (ns.set k ⟨(ns.getD k nd0).kind, q, (ns.getD k nd0).ints, (ns.getD k nd0).decs⟩) := by
  subst hl
  refine h.set (r := 1) hk (by decide) _ _ fun f hf => ?_
  obtain ⟨A1, c1, A2, c2, A3, c3, h0, h1, h2, h3, n1, n2, n3⟩ := hf
  exact ⟨A, c, A2, c2, A3, c3, by simp [h0], by simp, by simp [h2], by simp [h3], hq, n2, n3⟩
theorem Held.set_ints (h : Held T w g ns) {k : Nat} (hk : k < ns.length) (A : Option Addr) (l c : Nat) (q : List Int) (hl : q.length = l) (hq : NumsT T w A q) :
    Held T (w.setCell ⟨g, k * 4 + 2, none⟩ (.slice A l c)) g (ns.set k ⟨(ns.getD k nd0).kind, (ns.getD k nd0).shp, q, (ns.getD k nd0).decs⟩) := by
  subst hl
  refine h.set (r := 2) hk (by decide) _ _ fun f hf => ?_
  obtain ⟨A1, c1, A2, c2, A3, c3, h0, h1, h2, h3, n1, n2, n3⟩ := hf
  exact ⟨A1, c1, A, c, A3, c3, by simp [h0], by simp [h1], by simp, by simp [h3], n1, hq, n3⟩
end
/-- what was just copied -/
theorem Copied.held {w : World} {g : Nat} {ns : List Nd} (h : Copied w g ns) : Held (fun b => g < b ∧ b < w.heap.size) w g ns := by
  obtain ⟨f, hr, ho⟩ := h
  refine ⟨fun h => Nat.lt_irrefl _ h.1, f, hr, fun i hi => ?_⟩
  obtain ⟨b1, b2, b3, g1, g2, g3, h0, h1, h2, h3, r1, r2, r3⟩ := ho i hi
  refine ⟨some ⟨b1, 0, none⟩, (ns.getD i nd0).shp.length, some ⟨b2, 0, none⟩, (ns.getD i nd0).ints.length, some ⟨b3, 0, none⟩, (ns.getD i nd0).decs.length, h0, h1, h2, h3, ?_, ?_, ?_⟩
  · intro hp
    obtain ⟨b, off, e, hb, hc⟩ := nums_cells r1 hp
    cases e
    exact ⟨b1, 0, rfl, ⟨g1, heap_lt r1⟩, hc⟩
  · intro hp
    obtain ⟨b, off, e, hb, hc⟩ := nums_cells r2 hp
    cases e
    exact ⟨b2, 0, rfl, ⟨g2, heap_lt r2⟩, hc⟩
  · intro hp
    obtain ⟨b, off, e, hb, hc⟩ := decs_cells r3 hp
    cases e
    exact ⟨b3, 0, rfl, ⟨g3, heap_lt r3⟩, hc⟩
/-- the cells of node number k: its kind, and its slices, which have no room -/
theorem Copied.at_ {w : World} {g : Nat} {ns : List Nd} (h : Copied w g ns) {k : Nat} (hk : k < ns.length) : ∃ b1 b2, w.cell? ⟨g, k * 4, none⟩ = some (.int .i64 (ns.getD k nd0).kind) ∧
    w.cell? ⟨g, k * 4 + 1, none⟩ = some (.slice (some ⟨b1, 0, none⟩) (ns.getD k nd0).shp.length (ns.getD k nd0).shp.length) ∧ w.cell? ⟨g, k * 4 + 2, none⟩ = some (.slice (some ⟨b2, 0, none⟩) (ns.getD k nd0).ints.length (ns.getD k nd0).ints.length) ∧
    Nums .i64 w w.heap.size (some ⟨b1, 0, none⟩) (ns.getD k nd0).shp ∧ Nums .i64 w w.heap.size (some ⟨b2, 0, none⟩) (ns.getD k nd0).ints ∧ ∀ j, w.frozen? ⟨g, j, none⟩ = false := by
  obtain ⟨f, hr, ho⟩ := h
  obtain ⟨b1, b2, b3, g1, g2, g3, h0, h1, h2, h3, r1, r2, r3⟩ := ho k hk
  exact ⟨b1, b2, by rw [hr.cell (by omega), h0], by rw [hr.cell (by omega), h1], by rw [hr.cell (by omega), h2], nums_cells r1, nums_cells r2, fun j => hr.frozen j⟩
theorem Copied.kept {w w' : World} {g g' : Nat} {ns : List Nd} (h : Copied w g ns) (hk : Kept (fun k => k = g') w w') (hg : g' < g) : Copied w' g ns := by
  obtain ⟨f, hr, ho⟩ := h
  refine ⟨f, hr.of_block (hk.block g hr.lt (by show ¬ g = g'; omega)), fun i hi => ?_⟩
  obtain ⟨b1, b2, b3, g1, g2, g3, h0, h1, h2, h3, r1, r2, r3⟩ := ho i hi
  exact ⟨b1, b2, b3, g1, g2, g3, h0, h1, h2, h3, (hk.block b1 (heap_lt r1) (by show ¬ b1 = g'; omega)).trans r1, (hk.block b2 (heap_lt r2) (by show ¬ b2 = g'; omega)).trans r2, (hk.block b3 (heap_lt r3) (by show ¬ b3 = g'; omega)).trans r3⟩
theorem Copied.froz {w : World} {g : Nat} {ns : List Nd} (h : Copied w g ns) (j : Nat) : w.frozen? ⟨g, j, none⟩ = false := by
  obtain ⟨f, hr, ho⟩ := h
  exact hr.frozen j
theorem Copied.lt {w : World} {g : Nat} {ns : List Nd} (h : Copied w g ns) : g < w.heap.size := by
  obtain ⟨f, hr, ho⟩ := h
  exact hr.lt
/-- one more number behind a row that has no room: all new memory -/
theorem wpList_append_one {ops : Array Oper} {rest : List Oper} {o : Oper} {a : Act} {w : World} {Q : Exit → Act → World → Prop} (hgd : o.guard = none) (s x : Operand)
    (ho : o.op = .call { callee := .builtin .append, args := #[s, x], argTypes := #[29, 29] }) (b1 b l : Nat) (xs : List Int) (q : Int)
    (hs : a.eval s = .slice (some ⟨b1, 0, none⟩) l l) (hx : a.eval x = .slice (some ⟨b, 0, none⟩) 1 1) (hl : xs.length = l) (hxs : Nums .i64 w w.heap.size (some ⟨b1, 0, none⟩) xs) (hq : w.cell? ⟨b, 0, none⟩ = some (.int .i64 q)) (hb : l ≤ 1000000000)
    (h : ∀ A' c' w', Hid (NumsT (fun k => w.heap.size ≤ k ∧ k < w'.heap.size) w' A' (xs ++ [q])) → Hid (Grow w w') → wpList Try.prog ops Q rest (a.put o.dst (.slice A' (l + 1) c')) w') : wpList Try.prog ops Q (o :: rest) a w := by
  refine wpList_plain hgd fun K hK => ?_
  subst hl
  obtain ⟨i0, hi, hz0, hz1, hz2⟩ := info_of info_int
  have hsrc := src_nums hxs
  obtain ⟨v', w', hr, h2, h3⟩ := run_append_arg_grows (P := Try.prog) w 29 o.type 3 i0 _ 1 8 Try.underlying29 hi hz0 hz1 hz2 rfl (by decide) ⟨b1, 0, none⟩ xs.length xs.length (ivs xs) (ivs_len xs) (fun j u hj => by
      obtain ⟨ad, e, hc⟩ := hsrc (by have := (List.getElem?_eq_some_iff.1 hj).1; omega)
      cases e
      exact hc j u hj) ⟨b, 0, none⟩ 1 1 [.int .i64 q] rfl (fun j u hj => by
      match j, hj with
      | 0, hj => cases hj; rw [addr_add]; exact hq
      | j + 1, hj => simp at hj) (by omega) (by unfold maxLen; omega) (by omega)
  have hg : Grow w w' := (Below.refl _ _).grown h3 (Nat.le_refl _) (fun k hk => by cases hk)
  have he : ivs xs ++ [.int .i64 q] = ivs (xs ++ [q]) := by simp [ivs]
  rw [he] at h2
  rcases h2.2 with ⟨_, h0⟩ | ⟨g, cap, cur, rfl, hbg, hgg, hnc, hcm, hsz, htake⟩
  · omega
  · unfold Oper.wp
    simp [execOp, ho, resolve, invoke, builtin, hs, hx, hr, Result.andThen]
    refine hK _ _ (h _ _ _ (Lib.hid fun _ => ⟨g, 0, rfl, ⟨hbg, heap_lt hgg⟩, fun i hi => ?_⟩) (Lib.hid hg))
    have hi' : i < (ivs (xs ++ [q])).length := by simpa [ivs] using hi
    have hj : (ivs (xs ++ [q]))[i]? = some (.int .i64 ((xs ++ [q]).getD i 0)) := by
      have : i < (xs ++ [q]).length := hi
      unfold ivs
      rw [List.getElem?_map, List.getElem?_eq_getElem this]
      rw [show (xs ++ [q]).getD i 0 = (xs ++ [q])[i] by rw [List.getD, List.getElem?_eq_getElem this]; rfl]
      rfl
    rw [Nat.zero_add, cell_of_row w' g i cur _ (0, 0) hgg, ← hj, ← htake, List.getElem?_take, if_pos (by rw [List.length_append] at hi; simp at hi; omega), Array.getElem?_toList]
theorem xor_one (n : Int) (h : In n) : In (bits .xor .i64 n 1) ∧ bits .xor .i64 n 1 ≠ n := by
  have e : bits .xor .i64 n 1 = IntKind.i64.wrap (((BitVec.ofInt 64 n ^^^ BitVec.ofInt 64 1).toNat : Nat) : Int) := rfl
  rw [e, BitVec.toNat_xor, BitVec.toNat_ofInt, BitVec.toNat_ofInt]
  obtain ⟨m, hm⟩ : ∃ m : Nat, (n % 18446744073709551616).toNat = m := ⟨_, rfl⟩
  have hmlt : m < 2 ^ 64 := by omega
  have h1 : ((1 : Int) % ((2 ^ 64 : Nat) : Int)).toNat = 1 := by decide
  have h2 : (n % ((2 ^ 64 : Nat) : Int)).toNat = m := hm
  rw [h1, h2]
  have hx : m ^^^ 1 < 2 ^ 64 := Nat.xor_lt_two_pow hmlt (by decide)
  have hne : m ^^^ 1 ≠ m := fun h => by
    have := congrArg (fun x => m ^^^ x) h
    simp only [← Nat.xor_assoc, Nat.xor_self, Nat.zero_xor] at this
    omega
  generalize m ^^^ 1 = z at *
  obtain ⟨h3, h4⟩ := h
  rw [IntKind.wrap_i64]
  refine ⟨⟨by omega, by omega⟩, ?_⟩
  omega
end Go.Proofs.Ytfdlngcaopcaoaa
