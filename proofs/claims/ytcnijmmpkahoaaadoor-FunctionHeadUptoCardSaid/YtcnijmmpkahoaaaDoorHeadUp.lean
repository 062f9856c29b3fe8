/-
  What the bound of the second form gives for a head that came in. Nothing is claimed here by itself.
-/
import Derived.Test.YtcnijmmpkahoaaaDoorRows
import Derived.Test.YtcnijmmpkahoaaaDoorFew
import Derived.Stop.Joined
import Derived.MakeChecks
namespace Go.Proofs.YtcnijmmpkahoaaaDoor
open Go.RowKit Go.Lib Go.ChangeShapes Go.WideShapes

theorem bulk_one {H : Type} (d : DataW H) : 1 ≤ Rows.uptoBulk d := by
  cases d with
  | lit l => cases l <;> simp [Rows.uptoBulk]
  | nil => simp [Rows.uptoBulk]
  | ptr d => simp [Rows.uptoBulk]
  | slice elems spare => simp [Rows.uptoBulk]
  | agg parts => simp [Rows.uptoBulk]
  | iface t d => simp [Rows.uptoBulk]
  | map entries => simp [Rows.uptoBulk]
  | held h => simp [Rows.uptoBulk]
theorem bulk_part {H : Type} {d : DataW H} {l : List (DataW H)} (h : d ∈ l) : Rows.uptoBulk d ≤ Rows.uptoBulkAll l := by
  induction l with
  | nil => cases h
  | cons x r ih =>
    simp only [Rows.uptoBulkAll]
    cases List.mem_cons.1 h with
    | inl e => subst e; omega
    | inr e => have := ih e; omega
theorem bulk_len {H : Type} (l : List (DataW H)) : l.length ≤ Rows.uptoBulkAll l := by
  induction l with
  | nil => simp [Rows.uptoBulkAll]
  | cons x r ih => have := bulk_one x; simp only [Rows.uptoBulkAll, List.length_cons]; omega
theorem bulk_str {H : Type} (bytes : List UInt8) : Rows.uptoBulk (DataW.lit (H := H) (.string bytes)) = bytes.length + 1 := by simp [Rows.uptoBulk]
theorem bulk_agg {H : Type} (l : List (DataW H)) : Rows.uptoBulk (DataW.agg l) = Rows.uptoBulkAll l + 1 := by simp [Rows.uptoBulk]
theorem bulk_slice {H : Type} (l r : List (DataW H)) : Rows.uptoBulkAll l + 1 ≤ Rows.uptoBulk (DataW.slice l r) := by simp only [Rows.uptoBulk]; omega

section
variable {H : Type} {enc : TypeId × Value → H} {W : World}
theorem open_strs_up {fuel : Nat} {v : Value} {x : DataW H × List MemPlace} (h : DataW.trod enc Tryd.prog W 0 (fun _ => true) true fuel 22 [v] = some x) :
    ∃ a len cap zs, v = .slice a len cap ∧ IsStrs W a len cap zs ∧ len ≤ Rows.uptoBulk x.1 ∧ ∀ s ∈ zs.take len, s.size ≤ Rows.uptoBulk x.1 := by
  rcases open_strings Tryd.underlying22 Tryd.underlying9 (by kernel_rfl) h with ⟨hcs, _⟩ | ⟨a, l, c, zs, hcs, _, hl, hm, hz, hd, hcell, hwz⟩
  · simp at hcs
    exact ⟨none, 0, 0, [], hcs, .inl ⟨rfl, rfl, rfl, rfl⟩, Nat.zero_le _, by simp⟩
  · simp at hcs
    have hz' : zs.length = c := by simpa using hz
    have hd1 := congrArg Prod.fst hd
    simp only at hd1
    have hb := bulk_slice (strs (H := H) (zs.take l)) (strs (zs.drop l))
    rw [← hd1] at hb
    refine ⟨some a, l, c, zs, hcs, .inr ⟨_, rfl, hl, hm, hz', hcell, hwz⟩, ?_, ?_⟩
    · have h1 := bulk_len (strs (H := H) (zs.take l))
      have h2 : (strs (H := H) (zs.take l)).length = l := by simp [strs]; omega
      rw [h2] at h1
      omega
    · intro s hs
      have hmem : (DataW.lit (H := H) (.string s.data.toList)) ∈ strs (H := H) (zs.take l) := List.mem_map.2 ⟨s, hs, rfl⟩
      have := bulk_part hmem
      rw [bulk_str, ← size_eq] at this
      omega
theorem open_str_up {fuel : Nat} {v : Value} {x : DataW H × List MemPlace} (h : DataW.trod enc Tryd.prog W 0 (fun _ => true) true fuel 9 [v] = some x) :
    ∃ l : List UInt8, v = strv l ∧ l.length ≤ 9223372036854775807 ∧ l.length ≤ Rows.uptoBulk x.1 := by
  obtain ⟨s, e, hx, hs⟩ := DataW.trod_string Tryd.underlying9 h
  simp at e
  refine ⟨s.data.toList, by rw [e]; exact congrArg Value.string (str_list s), ?_, ?_⟩
  · unfold maxLen at hs
    rw [size_eq] at hs
    exact hs
  · rw [hx, bulk_str]
    omega
theorem strs_of_row_up {w : World} {a : Option Addr} {len cap : Nat} {zs : List ByteArray} {B : Nat} (h : IsStrs w a len cap zs) (hB : ∀ s ∈ zs.take len, s.size ≤ B) :
    ∃ ls : List (List UInt8), ls.length = len ∧ len ≤ 9223372036854775807 ∧ Strs w w.heap.size a ls ∧ (∀ s ∈ ls, s.length ≤ 9223372036854775807) ∧ len ≤ cap ∧ cap ≤ 9223372036854775807 ∧ (a = none → cap = 0) ∧ ∀ s ∈ ls, s.length ≤ B := by
  rcases h with ⟨rfl, rfl, rfl, rfl⟩ | ⟨x, rfl, hl, hm, hz, hcell, hwf⟩
  · exact ⟨[], rfl, Nat.zero_le _, strs_nil, by simp, Nat.le_refl _, Nat.zero_le _, fun _ => rfl, by simp⟩
  · refine ⟨(zs.take len).map fun s => s.data.toList, by simp; omega, Nat.le_trans hl hm, ?_, ?_, hl, hm, by simp, ?_⟩
    · intro hp
      have hp' : 0 < zs.length := by simp at hp; omega
      have h0 := hcell 0 hp'
      obtain ⟨b, off, spot⟩ := x
      have hspot : spot = none := by simpa [Addr.add] using World.cell?_spot h0
      subst hspot
      refine ⟨b, off, rfl, by simpa [Addr.add] using block_lt_of_cell h0, fun i hi => ?_⟩
      have hi1 : i < len ∧ i < zs.length := by simp at hi; omega
      have hc := hcell i hi1.2
      have e : (⟨b, off, none⟩ : Addr).add i = ⟨b, off + i, none⟩ := by unfold Addr.add; split <;> simp_all
      rw [e] at hc
      rw [hc]
      simp [hi1.1, hi1.2]
    · intro s hs
      obtain ⟨t, ht, rfl⟩ := List.mem_map.1 hs
      have := hwf t (List.mem_of_mem_take ht)
      unfold maxLen at this
      rw [size_eq] at this
      omega
    · intro s hs
      obtain ⟨t, ht, rfl⟩ := List.mem_map.1 hs
      have := hB t ht
      rw [size_eq] at this
      exact this
/-- a head that came in, of bounded bulk -/
theorem open_head_up {base : Nat} {v : Value} {d : DataW H} {p : List MemPlace} (hv : Value.okWide Tryd.prog W .any base 33 v)
    (h : DataW.Trod enc Tryd.prog W 0 (fun _ => true) true 33 v d p) (hb : Rows.uptoBulk d ≤ 1048576) : ∃ (hd : Hd) (a : Option Addr) (len cap : Nat), v = hdV hd a len cap ∧ (IsHead W a len cap hd ∧ HdIn W a len cap hd) := by
  obtain ⟨cs, rfl, hsz⟩ := okWide_struct Tryd.underlying33 hv
  have hC : Tryd.prog.cellsOf 33 = 7 := by kernel_rfl
  obtain ⟨l⟩ := cs
  rw [hC] at hsz
  match l, hsz with
  | [c0, c1, c2, c3, c4, c5, c6], _ =>
    obtain ⟨fuel, hf⟩ := h
    obtain ⟨xs, k, hk, hxy, _, hxl, hf⟩ := DataW.trod_struct Tryd.underlying33 hf
    match xs, hxl with
    | [y0, y1, y2, y3, y4, y5, y6], _ =>
      have g0 := hf 0 _ rfl
      have g1 := hf 1 _ rfl
      have g2 := hf 2 _ rfl
      have g3 := hf 3 _ rfl
      have g4 := hf 4 _ rfl
      have g5 := hf 5 _ rfl
      have g6 := hf 6 _ rfl
      have k1 : Tryd.prog.cellsOf 9 = 1 := by kernel_rfl
      have k2 : Tryd.prog.cellsOf 22 = 1 := by kernel_rfl
      simp [k1, k2, Value.cells] at g0 g1 g2 g3 g4 g5 g6
      have hd1 := congrArg Prod.fst hxy
      simp only at hd1
      rw [hd1, bulk_agg] at hb
      simp only [List.map_cons, List.map_nil, Rows.uptoBulkAll] at hb
      obtain ⟨l0, rfl, m0, n0⟩ := open_str_up g0
      obtain ⟨l1, rfl, m1, n1⟩ := open_str_up g1
      obtain ⟨l2, rfl, m2, n2⟩ := open_str_up g2
      obtain ⟨l3, rfl, m3, n3⟩ := open_str_up g3
      obtain ⟨l4, rfl, m4, n4⟩ := open_str_up g4
      obtain ⟨l5, rfl, m5, n5⟩ := open_str_up g5
      obtain ⟨a, len, cap, zs, rfl, hz, hl6, hs6⟩ := open_strs_up g6
      obtain ⟨ls, q1, q2, q3, q4, q5, q6, q7, q8⟩ := strs_of_row_up hz hs6
      have hall : ∀ s ∈ allH ⟨l0, l1, l2, l3, l4, l5, ls⟩, s.length ≤ 1048576 := by
        intro s hs
        simp only [allH, List.mem_cons] at hs
        rcases hs with rfl | rfl | rfl | rfl | rfl | rfl | hs
        · omega
        · omega
        · omega
        · omega
        · omega
        · omega
        · have := q8 s hs; omega
      exact ⟨⟨l0, l1, l2, l3, l4, l5, ls⟩, a, len, cap, rfl, ⟨q1, q2, q3, fun s hs => by have := hall s hs; omega, q5, q6, q7⟩, ⟨q1, q5, by omega, q7, q3, fun s hs => by have := hall s hs; omega⟩⟩
end
/-- a start that fits the row -/
theorem witness_up {H : Type} {enc : TypeId × Value → H} {C : Checked} {os : Os} {f : FuncId} {fn : Func} {s : OpenSpec} {conds : List PathCond} {apart : Bool} {laid : List (String × DataW Unit)} (w0 : World) (args : Array Value) (hos : w0.os = os)
    (hsh : (w0.forCall (fun _ _ => 0) ⟨#[], args, []⟩).Shaped C.prog) (hok : Input.okWideB C.prog (w0.forCall (fun _ _ => 0) ⟨#[], args, []⟩) f ⟨#[], args, []⟩ = true)
    (hrow : s.preRow enc C.prog fn conds apart laid (w0.forCall (fun _ _ => 0) ⟨#[], args, []⟩).memory args) :
    ∃ (w : World) (tape : Tape) (i : Input), w.os = os ∧ (w.forCall tape i).Shaped C.prog ∧ i.vars = [] ∧ Input.okWide C.prog (w.forCall tape i) .any w.heap.size f i ∧
      s.preRow enc C.prog fn conds apart laid (w.forCall tape i).memory i.args ∧ ({} : Assume).holds C.prog (lone (Frame.enter C.prog f i.args .normal) [] (w.forCall tape i)) :=
  ⟨w0, fun _ _ => 0, ⟨#[], args, []⟩, hos, hsh, (Input.okWide_of_okWideB (base := 0) hok).1, (Input.okWide_of_okWideB hok).2, hrow, by simp [Assume.holds]⟩
end Go.Proofs.YtcnijmmpkahoaaaDoor
