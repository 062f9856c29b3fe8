/-
  A full row of bytes, which an append leaves as it is: what utf8.AppendRune, quote.appendSign come to on it. Nothing is claimed here by itself.
-/
import Derived.Test.YthmhpjjpjgmdaaaDoorFirst
import Derived.ArgAppend
import Derived.Lib.SlBytesConst
namespace Go.Proofs.YthmhpjjpjgmdaaaDoor
open Go.RowKit Go.Lib
set_option linter.unusedSimpArgs false
set_option linter.unusedVariables false

/-- a full row of bytes -/
def Full (w : World) (v : Value) (q : List UInt8) : Prop := ∃ g, v = .slice (some ⟨g, 0, none⟩) q.length q.length ∧ g < w.heap.size ∧ ∀ j u, (byteCells q)[j]? = some u → w.cell? ⟨g, j, none⟩ = some u
theorem Full.grow {w w' : World} {v : Value} {q : List UInt8} (h : Full w v q) (hg : Grow w w') : Full w' v q := by
  obtain ⟨g, e, hl, hc⟩ := h
  exact ⟨g, e, Nat.lt_of_lt_of_le hl hg.size, fun j u hj => (hg.cell (p := ⟨g, j, none⟩) hl).trans (hc j u hj)⟩
theorem bytes_len (q : List UInt8) : (byteCells q).length = q.length * 1 := by simp [byteCells]
theorem full_conv {w : World} {v : Value} {q : List UInt8} (h : Full w v q) : (convert 33 9 v).run Tryd.prog w = .ok (.string ⟨q.toArray⟩) w := by
  obtain ⟨g, rfl, hl, hc⟩ := h
  refine run_convert_bytes_back (P := Tryd.prog) w 33 9 5 ⟨g, 0, none⟩ q.length q (by kernel_rfl) (by kernel_rfl) (by kernel_rfl) (fun j hj => ?_)
  rw [Addr.add_lit, Nat.zero_add, hc j (.int .u8 (q[j].toNat)) (by simp [byteCells, hj])]
theorem own_base {w : World} {B B' : Nat} {e : TypeId} {size n : Nat} {v : Value} {xs : List Value} (h : w.ownsRow B e size v n xs) (hb : B' ≤ B) : w.ownsRow B' e size v n xs :=
  ⟨h.1, by
    rcases h.2 with h0 | ⟨g, cap, cur, hv, hbg, rest⟩
    · exact .inl h0
    · exact .inr ⟨g, cap, cur, hv, Nat.le_trans hb hbg, rest⟩⟩

theorem wpList_append_full {ops : Array Oper} {rest : List Oper} {o : Oper} {a : Act} {w : World} {Q : Exit → Act → World → Prop} (hgd : o.guard = none) (s x : Operand)
    (ho : o.op = .call { callee := .builtin .append, args := #[s, x], argTypes := #[33, 33] }) (B : Nat) (v : Value) (q : List UInt8) (m : Nat) (p : List Value)
    (hs : a.eval s = v) (hf : Full w v q) (hx : a.eval x = .slice (some ⟨w.heap.size, 0, none⟩) m m) (hm : p.length = m) (h0 : 0 < m) (hq : q.length ≤ 1000000) (hm4 : m ≤ 4) (hB : B ≤ w.heap.size)
    (h : ∀ v' w', w'.ownsRow B 5 1 v' (q.length + m) (byteCells q ++ p) → Below B w w' → wpList Tryd.prog ops Q rest (a.put o.dst v') w') : wpList Tryd.prog ops Q (o :: rest) a (w.alloc (.cells p.toArray 5)) := by
  obtain ⟨i0, hi, hz0, hz1, hz2⟩ := info_of info5
  have hf1 := hf.grow (grow_new w (.cells p.toArray 5))
  obtain ⟨g, rfl, hl, hc⟩ := hf1
  obtain ⟨v', w', hr, h2, h3⟩ := run_append_arg_grows (P := Tryd.prog) (w.alloc (.cells p.toArray 5)) 33 o.type 5 i0 (.int .u8 0) 1 1 Tryd.underlying33 hi hz0 hz1 hz2 rfl (by decide) ⟨g, 0, none⟩ q.length q.length (byteCells q) (bytes_len q)
    (fun j u hj => by rw [Addr.add_lit, Nat.zero_add]; exact hc j u hj) ⟨w.heap.size, 0, none⟩ m m p (by omega) (fun j u hj => by rw [Addr.add_lit, World.cell?_alloc_new]; simpa using hj) (by omega) (by unfold maxLen; omega) (by omega)
  refine wpList_plain hgd fun K hK => ?_
  have hg2 : Grow (w.alloc (.cells p.toArray 5)) w' := (Below.refl _ _).grown h3 (Nat.le_refl _) (fun k hk => by cases hk)
  have hw := h v' w' (own_base h2 (by simp; omega)) (Below.mono ((grow_new w _).trans hg2) hB)
  unfold Oper.wp
  simp [execOp, ho, resolve, invoke, builtin, hs, hx, hr, Result.andThen]
  exact hK _ _ hw
theorem wpList_append_full_text {ops : Array Oper} {rest : List Oper} {o : Oper} {a : Act} {w : World} {Q : Exit → Act → World → Prop} (hgd : o.guard = none) (s x : Operand)
    (ho : o.op = .call { callee := .builtin .append, args := #[s, x], argTypes := #[33, 9] }) (B : Nat) (v : Value) (q p : List UInt8)
    (hs : a.eval s = v) (hf : Full w v q) (hx : a.eval x = .string ⟨p.toArray⟩) (h0 : 0 < p.length) (hq : q.length ≤ 1000000) (hm4 : p.length ≤ 4) (hB : B ≤ w.heap.size)
    (h : ∀ v' w', Own B v' (q ++ p) w' → Below B w w' → wpList Tryd.prog ops Q rest (a.put o.dst v') w') : wpList Tryd.prog ops Q (o :: rest) a w := by
  obtain ⟨i0, hi, hz0, hz1, hz2⟩ := info_of info5
  obtain ⟨g, rfl, hl, hc⟩ := hf
  have hsz : (⟨p.toArray⟩ : ByteArray).size = p.length := str_size p
  have hr := run_append_grow_string (P := Tryd.prog) (w := w) 33 9 o.type 5 i0 (.int .u8 0) Tryd.underlying33 Tryd.underlying9 hi hz0 ⟨g, 0, none⟩ q.length q.length (byteCells q) (by rw [hz1, bytes_len])
    (fun j u hj => by rw [Addr.add_lit, Nat.zero_add]; exact hc j u hj) ⟨p.toArray⟩ (by omega) (by omega) (growslice_fits (by omega) (by rw [hz2]; omega))
  have hge := grownCap_ge w (q.length + (⟨p.toArray⟩ : ByteArray).size) q.length 5
  have hcm := grownCap_le_maxLen w (q.length + (⟨p.toArray⟩ : ByteArray).size) q.length 5 (by unfold maxLen; omega)
  refine wpList_plain hgd fun K hK => ?_
  have hown : Own B (.slice (some ⟨w.heap.size, 0, none⟩) (q.length + (⟨p.toArray⟩ : ByteArray).size) (grownCap w (q.length + (⟨p.toArray⟩ : ByteArray).size) q.length 5)) (q ++ p)
      (w.drew.alloc (.cells ((byteCells q).toArray ++ (strCells ⟨p.toArray⟩).toArray ++ Builtin.zeroCells (Value.int .u8 0).cells (grownCap w (q.length + (⟨p.toArray⟩ : ByteArray).size) q.length 5 - (q.length + (⟨p.toArray⟩ : ByteArray).size))) 5)) := by
    unfold Own
    rw [show (q ++ p).length = q.length + (⟨p.toArray⟩ : ByteArray).size by rw [List.length_append, hsz]]
    refine ⟨by rw [bytes_len, List.length_append, hsz], .inr ⟨w.heap.size, _, _, rfl, hB, heap_alloc_new w.drew _, hge, hcm, ?_, ?_⟩⟩
    · have hz1 : (Value.int IntKind.u8 0).cells.size = 1 := rfl
      simp only [Array.size_append, List.size_toArray, size_zeroCells, hz1, strCells_length]
      rw [bytes_len]
      omega
    · rw [cells_app, ← cells_str p]
      simp only [Array.toList_append, List.append_assoc]
      rw [← List.append_assoc]
      have : (byteCells q ++ strCells ⟨p.toArray⟩).length = (q.length + (⟨p.toArray⟩ : ByteArray).size) * 1 := by rw [List.length_append, bytes_len, strCells_length]; omega
      rw [← this]
      exact List.take_left
  obtain ⟨v', w', hr', ho', hg'⟩ : ∃ v' w', (Builtin.append_ #[33, 9] o.type #[.slice (some ⟨g, 0, none⟩) q.length q.length, .string ⟨p.toArray⟩]).run Tryd.prog w = .ok v' w' ∧ Own B v' (q ++ p) w' ∧ Grow w w' :=
    ⟨_, _, hr, hown, Grow.of_drew (grow_new w.drew _)⟩
  have hw := h v' w' ho' (Below.mono hg' hB)
  clear hr hown
  unfold Oper.wp
  simp [execOp, ho, resolve, invoke, builtin, hs, hx, hr', Result.andThen]
  exact hK _ _ hw

def Laid2 (B : Nat) (q : List UInt8) (p : List Value) (w : World) (e : Ending) (w' : World) : Prop := ∃ v', e = .returned v' ∧ w'.ownsRow B 5 1 v' (q.length + p.length) (byteCells q ++ p) ∧ Below B w w'

set_option maxHeartbeats 4000000 in
set_option maxRecDepth 100000 in
theorem full_one (B : Nat) (v : Value) (q : List UInt8) (r : Int) (h0 : 0 ≤ r) (h1 : r ≤ 127) (w : World) (hf : Full w v q) (hq : q.length ≤ 1000000) (hB : B ≤ w.heap.size) :
    Calls Tryd.prog 22 #[v, .int .i32 r] w (Laid2 B q [.int .u8 r] w) := by
  have HF := Lib.hid hf
  clear hf
  go_enter Tryd.func22, Tryd.ntmps22
  go_wp2_with (at_builtin; refine wpList_append_full rfl _ _ rfl B v q 1 [.int .u8 r] rfl HF.out rfl rfl (by decide) hq (by decide) hB ?_; intro v' w2 hown' hgrow)
  go_wp2
  go_ret
  exact ⟨_, rfl, hown', hgrow⟩

set_option maxHeartbeats 4000000 in
set_option maxRecDepth 100000 in
theorem full_two (B : Nat) (v : Value) (q : List UInt8) (r : Int) (h0 : 128 ≤ r) (h1 : r ≤ 2047) (w : World) (hf : Full w v q) (hq : q.length ≤ 1000000) (hB : B ≤ w.heap.size) :
    Calls Tryd.prog 29 #[v, .int .i32 r] w (Laid2 B q [.int .u8 (192 + r / 64), .int .u8 (128 + r % 64)] w) := by
  have HF := Lib.hid hf
  clear hf
  go_enter Tryd.func29, Tryd.ntmps29
  go_wp2_with (at_builtin; refine wpList_append_full rfl _ _ rfl B v q 2 [.int .u8 (192 + r / 64), .int .u8 (128 + r % 64)] rfl HF.out rfl rfl (by decide) hq (by decide) hB ?_; intro v' w2 hown' hgrow)
  go_wp2
  go_ret
  exact ⟨_, rfl, hown', hgrow⟩

set_option maxHeartbeats 4000000 in
set_option maxRecDepth 100000 in
theorem full_three_lo (B : Nat) (v : Value) (q : List UInt8) (r : Int) (h0 : 2048 ≤ r) (h1 : r < 55296) (w : World) (hf : Full w v q) (hq : q.length ≤ 1000000) (hB : B ≤ w.heap.size) :
    Calls Tryd.prog 29 #[v, .int .i32 r] w (Laid2 B q [.int .u8 (224 + r / 4096), .int .u8 (128 + r / 64 % 64), .int .u8 (128 + r % 64)] w) := by
  have HF := Lib.hid hf
  clear hf
  go_enter Tryd.func29, Tryd.ntmps29
  go_wp2_with (at_builtin; refine wpList_append_full rfl _ _ rfl B v q 3 [.int .u8 (224 + r / 4096), .int .u8 (128 + r / 64 % 64), .int .u8 (128 + r % 64)] rfl HF.out rfl rfl (by decide) hq (by decide) hB ?_; intro v' w2 hown' hgrow)
  go_wp2
  go_ret
  exact ⟨_, rfl, hown', hgrow⟩

set_option maxHeartbeats 4000000 in
set_option maxRecDepth 100000 in
theorem full_three_hi (B : Nat) (v : Value) (q : List UInt8) (r : Int) (h0 : 57343 < r) (h1 : r ≤ 65535) (w : World) (hf : Full w v q) (hq : q.length ≤ 1000000) (hB : B ≤ w.heap.size) :
    Calls Tryd.prog 29 #[v, .int .i32 r] w (Laid2 B q [.int .u8 (224 + r / 4096), .int .u8 (128 + r / 64 % 64), .int .u8 (128 + r % 64)] w) := by
  have HF := Lib.hid hf
  clear hf
  go_enter Tryd.func29, Tryd.ntmps29
  go_wp2_with (at_builtin; refine wpList_append_full rfl _ _ rfl B v q 3 [.int .u8 (224 + r / 4096), .int .u8 (128 + r / 64 % 64), .int .u8 (128 + r % 64)] rfl HF.out rfl rfl (by decide) hq (by decide) hB ?_; intro v' w2 hown' hgrow)
  go_wp2
  go_ret
  exact ⟨_, rfl, hown', hgrow⟩

set_option maxHeartbeats 4000000 in
set_option maxRecDepth 100000 in
theorem full_four (B : Nat) (v : Value) (q : List UInt8) (r : Int) (h0 : 65536 ≤ r) (h1 : r ≤ 1114111) (w : World) (hf : Full w v q) (hq : q.length ≤ 1000000) (hB : B ≤ w.heap.size) :
    Calls Tryd.prog 29 #[v, .int .i32 r] w (Laid2 B q [.int .u8 (240 + r / 262144), .int .u8 (128 + r / 4096 % 64), .int .u8 (128 + r / 64 % 64), .int .u8 (128 + r % 64)] w) := by
  have HF := Lib.hid hf
  clear hf
  go_enter Tryd.func29, Tryd.ntmps29
  go_wp2_with (at_builtin; refine wpList_append_full rfl _ _ rfl B v q 4 [.int .u8 (240 + r / 262144), .int .u8 (128 + r / 4096 % 64), .int .u8 (128 + r / 64 % 64), .int .u8 (128 + r % 64)] rfl HF.out rfl rfl (by decide) hq (by decide) hB ?_; intro v' w2 hown' hgrow)
  go_wp2
  go_ret
  exact ⟨_, rfl, hown', hgrow⟩

theorem full_non (B : Nat) (v : Value) (q : List UInt8) (c : Nat) (hc : isSign c = true) (h : 128 ≤ c) (w : World) (hf : Full w v q) (hq : q.length ≤ 1000000) (hB : B ≤ w.heap.size) :
    Calls Tryd.prog 29 #[v, .int .i32 (c : Int)] w (Laid2 B q (Lib.runeCells (c : Int)) w) := by
  have hs := isSign_iff.1 hc
  by_cases c1 : c ≤ 2047
  · rw [show Lib.runeCells (c : Int) = [.int .u8 (192 + (c : Int) / 64), .int .u8 (128 + (c : Int) % 64)] by simp [Lib.runeCells, Lib.encodeRuneZ_two (r := (c : Int)) (by omega) (by omega)]]
    exact full_two B v q c (by omega) (by omega) w hf hq hB
  by_cases c2 : c < 55296
  · rw [show Lib.runeCells (c : Int) = [.int .u8 (224 + (c : Int) / 4096), .int .u8 (128 + (c : Int) / 64 % 64), .int .u8 (128 + (c : Int) % 64)] by simp [Lib.runeCells, Lib.encodeRuneZ_three (r := (c : Int)) (Or.inl ⟨by omega, by omega⟩)]]
    exact full_three_lo B v q c (by omega) (by omega) w hf hq hB
  by_cases c4 : c ≤ 65535
  · rw [show Lib.runeCells (c : Int) = [.int .u8 (224 + (c : Int) / 4096), .int .u8 (128 + (c : Int) / 64 % 64), .int .u8 (128 + (c : Int) % 64)] by simp [Lib.runeCells, Lib.encodeRuneZ_three (r := (c : Int)) (Or.inr ⟨by omega, by omega⟩)]]
    exact full_three_hi B v q c (by omega) (by omega) w hf hq hB
  · rw [show Lib.runeCells (c : Int) = [.int .u8 (240 + (c : Int) / 262144), .int .u8 (128 + (c : Int) / 4096 % 64), .int .u8 (128 + (c : Int) / 64 % 64), .int .u8 (128 + (c : Int) % 64)] by simp [Lib.runeCells, Lib.encodeRuneZ_four (r := (c : Int)) (by omega) (by omega)]]
    exact full_four B v q c (by omega) (by omega) w hf hq hB

set_option maxHeartbeats 4000000 in
set_option maxRecDepth 100000 in
theorem full_rune (B : Nat) (v : Value) (q : List UInt8) (c : Nat) (w : World) (hc : isSign c = true) (hq : q.length ≤ 1000000) (hf : Full w v q) (hB : B ≤ w.heap.size) :
    Calls Tryd.prog 22 #[v, .int .i32 (c : Int)] w (Laid1 B (q ++ bytesD c) w) := by
  have hs := isSign_iff.1 hc
  have HR := Lib.hid (rune_cells hc)
  have hfin : ∀ e w', Laid2 B q (Lib.runeCells (c : Int)) w e w' → Laid1 B (q ++ bytesD c) w e w' := by
    rintro e w' ⟨v', rfl, h1, h2⟩
    refine ⟨v', rfl, ?_, h2⟩
    unfold Own
    rw [List.length_append, cells_app]
    rw [HR.out, byteCells_length] at h1
    exact h1
  by_cases h1 : c < 128
  · refine (show Calls Tryd.prog 22 #[v, .int .i32 (c : Int)] w (Laid2 B q (Lib.runeCells (c : Int)) w) from ?_).mono hfin
    rw [show Lib.runeCells (c : Int) = [.int .u8 (c : Int)] by simp [Lib.runeCells, Lib.encodeRuneZ_one (r := (c : Int)) (by omega) (by omega)]]
    exact full_one B v q c (by omega) (by omega) w hf hq hB
  · refine (show Calls Tryd.prog 22 #[v, .int .i32 (c : Int)] w (Laid2 B q (Lib.runeCells (c : Int)) w) from ?_).mono hfin
    have HN := Lib.hid (full_non B v q c hc (by omega) w hf hq hB)
    have h1' : ¬ ((c : Nat) : Int) ≤ 127 := by omega
    have hw : IntKind.u32.wrap ((c : Nat) : Int) = ((c : Nat) : Int) := by rw [IntKind.wrap_u32]; omega
    clear hfin HR hf
    generalize Lib.runeCells (c : Int) = p at *
    go_enter Tryd.func22, Tryd.ntmps22
    go_wp2_with fail
    refine (HN.out).mono ?_
    rintro e w1 ⟨v1, rfl, ho, hb⟩
    have HO1 := Lib.hid ho
    have HB1 := Lib.hid hb
    clear ho hb
    go_wp2
    go_ret
    exact ⟨_, rfl, HO1.out, HB1.out⟩

set_option maxRecDepth 10000 in
set_option maxHeartbeats 800000 in
theorem append_full (B : Nat) (v : Value) (q : List UInt8) (c : Nat) (w : World) (hc : isSign c = true) (hq : q.length ≤ 1000000) (hf : Full w v q) (hB : B ≤ w.heap.size) :
    Calls Tryd.prog 15 #[v, .int .i32 c] w (Laid1 B (q ++ qC c) w) := by
  have HO := Lib.hid hf
  have henc : (Utf8.encode (c : Int)).toList = bytesD c := by rw [enc_bytes hc, Lib.toList_data]
  by_cases h39 : c = 39
  · have ht : ((Utf8.encode (c : Int)).toList == [39]) = true := by rw [henc, h39]; rfl
    rw [show qC c = [39, 39] by rw [h39]; rfl]
    clear hf hc henc h39
    go_enter Tryd.func15, Tryd.ntmps15
    go_wp2_with (at_builtin; refine wpList_append_full_text rfl _ _ rfl B v q [39, 39] rfl HO.out rfl (by decide) hq (by decide) hB ?_; intro v1 w1 ho1 hb1)
    go_ret
    exact ⟨_, rfl, ho1, hb1⟩
  · have HR := Lib.hid (full_rune B v q c w hc hq hf hB)
    rw [qC_other h39]
    have ht : ((Utf8.encode (c : Int)).toList == [39]) = false := by
      rw [beq_eq_false_iff_ne, henc]
      intro e1
      have hn := next_bytes hc []
      rw [e1, List.append_nil, next_one (by decide)] at hn
      exact h39 (Prod.mk.inj hn).1.symm
    clear hf hc h39 henc
    go_enter Tryd.func15, Tryd.ntmps15
    go_wp2_with fail
    refine (HR.out).mono ?_
    rintro e w1 ⟨v1, rfl, ho, hb⟩
    have HO1 := Lib.hid ho
    have HB1 := Lib.hid hb
    clear ho hb
    go_wp2
    go_ret
    exact ⟨_, rfl, HO1.out, HB1.out⟩

/-- bytes that may be appended to: of one's own, or a full row -/
def OwnM (B : Nat) (v : Value) (q : List UInt8) (w : World) : Prop := Own B v q w ∨ Full w v q
theorem OwnM.conv {B : Nat} {v : Value} {q : List UInt8} {w : World} (h : OwnM B v q w) : (convert 33 9 v).run Tryd.prog w = .ok (.string ⟨q.toArray⟩) w := h.elim conv_own full_conv
theorem append_both (B : Nat) (v : Value) (q : List UInt8) (c : Nat) (w : World) (hc : isSign c = true) (hq : q.length ≤ 1000000) (h : OwnM B v q w) (hB : B ≤ w.heap.size) :
    Calls Tryd.prog 15 #[v, .int .i32 c] w (Laid1 B (q ++ qC c) w) :=
  h.elim (fun h => append_any B v q c w hc hq h hB) (fun h => append_full B v q c w hc hq h hB)
end Go.Proofs.YthmhpjjpjgmdaaaDoor
