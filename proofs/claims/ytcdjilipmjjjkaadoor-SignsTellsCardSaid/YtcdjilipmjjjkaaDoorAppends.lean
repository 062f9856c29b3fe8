/-
  What signs.appendEscape comes to, called with bytes of the caller's own and any sign.
-/
import Derived.Test.YtcdjilipmjjjkaaDoorFmts
import Derived.Lib.AppendStr
import Derived.Laws.OwnMore
import Derived.Deep.CutBlock
import Derived.Deep.DeepCutAuto
namespace Go.Proofs.YtcdjilipmjjjkaaDoor
open Go.RowKit Go.Lib
set_option linter.unusedSimpArgs false

theorem info5 : (Tryd.prog.info? 5).map (fun i => (i.zero, i.size, i.bytes)) = some (some (.int .u8 0), 1, 1) := by kernel_rfl
theorem cells_app (a b : List UInt8) : byteCells (a ++ b) = byteCells a ++ byteCells b := by simp [byteCells]
theorem cells_str (l : List UInt8) : strCells ⟨l.toArray⟩ = byteCells l := rfl

/-- bytes of one's own -/
def Own (B : Nat) (v : Value) (q : List UInt8) (w : World) : Prop := w.ownsRow B 5 1 v q.length (byteCells q)
theorem own_nil (B : Nat) (w : World) : Own B (.slice none 0 0) [] w := World.ownsRow_nil _ _ _ _
theorem Own.grow {B : Nat} {v : Value} {q : List UInt8} {w w' : World} (h : Own B v q w) (hg : Grow w w') : Own B v q w' := by
  refine ⟨h.1, ?_⟩
  rcases h.2 with h0 | ⟨g', cap', cur, hv, hbg, hgg, rest⟩
  · exact .inl h0
  · exact .inr ⟨g', cap', cur, hv, hbg, (hg.block g' (heap_lt hgg)).trans hgg, rest⟩
theorem Own.iter {B k : Nat} {v : Value} {q : List UInt8} {w : World} (h : Own B v q w) (hk : k < B) (s : ByteArray) (p : Nat) : Own B v q (w.iterAt k s p) := by
  refine ⟨h.1, ?_⟩
  rcases h.2 with h0 | ⟨g', cap', cur, hv, hbg, hgg, rest⟩
  · exact .inl h0
  · exact .inr ⟨g', cap', cur, hv, hbg, (iterAt_other w k g' s p (by omega)).trans hgg, rest⟩

theorem wpList_append_text {ops : Array Oper} {rest : List Oper} {o : Oper} {a : Act} {w : World} {Q : Exit → Act → World → Prop} (hgd : o.guard = none) (s x : Operand)
    (ho : o.op = .call { callee := .builtin .append, args := #[s, x], argTypes := #[27, 9] }) (B : Nat) (v : Value) (q p : List UInt8)
    (hs : a.eval s = v) (hown : Own B v q w) (hx : a.eval x = .string ⟨p.toArray⟩) (hb : q.length + p.length ≤ 140737488355328) (hbase : B ≤ w.heap.size)
    (h : ∀ v' w', Own B v' (q ++ p) w' → Below B w w' → wpList Tryd.prog ops Q rest (a.put o.dst v') w') : wpList Tryd.prog ops Q (o :: rest) a w := by
  obtain ⟨i0, hi, hz0, hz1, hz2⟩ := info_parts info5
  refine wpList_append_own_string w hgd s x 27 9 ho B 5 i0 Tryd.underlying27 Tryd.underlying9 hi hz0 hz1 hz2 v q.length (byteCells q) hs hown ⟨p.toArray⟩ hx (by rw [str_size]; unfold maxLen; omega) (by rw [str_size]; omega) hbase ?_
  intro v' w' hown' hgrow _
  refine h v' w' ?_ (Below.grown (Below.refl _ _) hgrow hbase (fun g hg => (hown.lt g hg).1))
  unfold Own
  rw [List.length_append, cells_app, ← cells_str p]
  rw [str_size] at hown'
  exact hown'
theorem cells_one (l : List UInt8) : ∀ u ∈ byteCells l, u.oneCell' = true := by
  intro u hu
  simp only [byteCells, List.mem_map] at hu
  obtain ⟨c, _, rfl⟩ := hu
  rfl
theorem wpList_append_lit {ops : Array Oper} {rest : List Oper} {o : Oper} {a : Act} {w : World} {Q : Exit → Act → World → Prop} (hgd : o.guard = none) (s x : Operand)
    (ho : o.op = .call { callee := .builtin .append, args := #[s, x], argTypes := #[27, 27] }) (B : Nat) (v : Value) (q p : List UInt8) (m c : Nat)
    (hs : a.eval s = v) (hown : Own B v q w) (hx : a.eval x = .slice (some ⟨w.heap.size, 0, none⟩) m c) (hm : m = p.length) (hb : q.length + p.length ≤ 140737488355328) (hbase : B ≤ w.heap.size)
    (h : ∀ v' w', Own B v' (q ++ p) w' → Below B w w' → wpList Tryd.prog ops Q rest (a.put o.dst v') w') : wpList Tryd.prog ops Q (o :: rest) a (w.alloc (.cells (byteCells p).toArray 5)) := by
  obtain ⟨i0, hi, hz0, hz1, hz2⟩ := info_parts info5
  subst hm
  have hown' : Own B v q (w.alloc (.cells (byteCells p).toArray 5)) := hown.grow (grow_new _ _)
  refine wpList_append_own _ hgd s x 27 ho B 5 i0 (.int .u8 0) 1 1 Tryd.underlying27 hi hz0 hz1 hz2 rfl (by decide) v q.length (byteCells q) hs hown' ⟨w.heap.size, 0, none⟩ p.length c (byteCells p) hx (by simp [byteCells]) (fun j u hj => by
      rw [Addr.add_lit, World.cell?_alloc_new]
      simpa using hj) (cells_one p) (by unfold maxLen; omega) (by omega) (by simp; omega) ?_
  intro v' w' h2 hgrow _
  refine h v' w' ?_ (Below.trans (Below.mono (grow_new w _) hbase) (Below.grown (Below.refl _ _) hgrow (by simp; omega) (fun g hg => (hown'.lt g hg).1)))
  unfold Own
  rw [List.length_append, cells_app]
  exact h2

theorem isplain_any (c : Nat) (w : World) : Calls Tryd.prog 19 #[.int .i32 c] w fun e w' => e = .returned (.bool (decide (32 ≤ c ∧ c ≤ 126))) ∧ w' = w := by
  by_cases h1 : 32 ≤ c
  · by_cases h2 : c ≤ 126
    · have h1' : (32 : Int) ≤ c := by omega
      have h2' : (c : Int) ≤ 126 := by omega
      go_enter Tryd.func19, Tryd.ntmps19
      go_wp2
      go_ret
      exact ⟨by simp [h1, h2, h2'], rfl⟩
    · have h1' : (32 : Int) ≤ c := by omega
      have h2' : ¬ (c : Int) ≤ 126 := by omega
      go_enter Tryd.func19, Tryd.ntmps19
      go_wp2
      go_ret
      exact ⟨by simp [h2, h2'], rfl⟩
  · have h1' : ¬ (32 : Int) ≤ c := by omega
    go_enter Tryd.func19, Tryd.ntmps19
    go_wp2
    go_ret
    exact ⟨by simp [h1], rfl⟩

def Laid1 (B : Nat) (q : List UInt8) (w : World) (e : Ending) (w' : World) : Prop := ∃ v', e = .returned v' ∧ Own B v' q w' ∧ Below B w w'

set_option maxRecDepth 10000 in
set_option maxHeartbeats 1600000 in
theorem append_any (B : Nat) (v : Value) (q : List UInt8) (c : Nat) (w : World) (hc : isSign c = true) (hq : q.length ≤ 1000000) (hown : Own B v q w) (hB : B ≤ w.heap.size) (hL : Laid w) :
    Calls Tryd.prog 15 #[v, .int .i32 c] w (Laid1 B (q ++ oneD c) w) := by
  have hs := (isSign_iff.1 hc).1
  have HO := Lib.hid hown
  have HL := Lib.hid hL
  clear hown hL hc
  by_cases h64 : c = 64
  · subst h64
    go_enter Tryd.func15, Tryd.ntmps15
    go_wp2_with (at_builtin; refine wpList_append_text rfl _ _ rfl B v q [64, 64] rfl HO.out rfl (by simp only [List.length_cons, List.length_nil]; omega) hB ?_; intro v1 w1 ho1 hb1)
    go_ret
    exact ⟨_, rfl, ho1, hb1⟩
  · have h64b : (((c : Nat) : Int) == 64) = false := by rw [beq_eq_false_iff_ne]; omega
    have HP := Lib.hid (isplain_any c w)
    by_cases hpl : 32 ≤ c ∧ c ≤ 126
    · have hd : decide (32 ≤ c ∧ c ≤ 126) = true := by simpa using hpl
      rw [hd] at HP
      have HE := Lib.hid (oneD_plain h64 hpl)
      have hw : IntKind.u8.wrap (c : Int) = c := by rw [IntKind.wrap_u8]; omega
      have hn : ((UInt8.ofNat c).toNat : Int) = c := by rw [u8_nat (by omega)]
      have HW : Hid (w.alloc (.cells #[.int .u8 c] 5) = w.alloc (.cells (byteCells [UInt8.ofNat c]).toArray 5)) := Lib.hid (by simp only [byteCells, List.map_cons, List.map_nil, hn])
      clear hd h64 hpl hn
      go_enter Tryd.func15, Tryd.ntmps15
      go_wp2_with fail
      refine (HP.out).mono ?_
      rintro e w1 ⟨rfl, rfl⟩
      go_wp2_with (at_builtin; rw [HW.out]; refine wpList_append_lit rfl _ _ rfl B v q [UInt8.ofNat c] 1 1 rfl HO.out rfl rfl (by simp only [List.length_cons, List.length_nil]; omega) hB ?_; intro v1 w1 ho1 hb1)
      go_ret
      exact ⟨_, rfl, by rw [HE.out]; exact ho1, hb1⟩
    · have hd : decide (32 ≤ c ∧ c ≤ 126) = false := by simpa using hpl
      rw [hd] at HP
      have HT := Lib.hid (plainof_any c w HL.out)
      cases ht : stands c with
      | some t =>
        have HE := Lib.hid (oneD_tab hpl ht)
        unfold PlainOf at HT
        rw [ht] at HT
        have ht8 := u8_lt t
        have hw : IntKind.u8.wrap (t.toNat : Int) = (t.toNat : Nat) := by rw [IntKind.wrap_u8]; omega
        have HW : Hid (∀ W : World, W.alloc (.cells #[.int .u8 64, .int .u8 (t.toNat : Nat)] 5) = W.alloc (.cells (byteCells [64, t]).toArray 5)) := Lib.hid (fun _ => rfl)
        clear hd h64 hpl ht
        go_enter Tryd.func15, Tryd.ntmps15
        go_wp2_with fail
        refine (HP.out).mono ?_
        rintro e w1 ⟨rfl, rfl⟩
        go_wp2_with fail
        refine (HT.out).mono ?_
        rintro e w2 ⟨rfl, hg2⟩
        have HO2 := Lib.hid (HO.out.grow hg2)
        have hB2 : B ≤ w2.heap.size := Nat.le_trans hB hg2.size
        have HB2 := Lib.hid (Below.mono hg2 hB)
        clear hg2 HT HP
        simp only [Option.getD_some, Option.isSome_some]
        go_wp2_with (at_builtin; rw [HW.out]; refine wpList_append_lit rfl _ _ rfl B v q [64, t] 2 2 rfl HO2.out rfl rfl (by simp only [List.length_cons, List.length_nil]; omega) hB2 ?_; intro v1 w3 ho1 hb1)
        go_ret
        exact ⟨_, rfl, by rw [HE.out]; exact ho1, HB2.out.trans hb1⟩
      | none =>
        have HE := Lib.hid (oneD_num hpl ht)
        unfold PlainOf at HT
        rw [ht] at HT
        have hl6 := (hex_len (k := 6) (n := c) (by omega) (by omega)).1
        have HF := Lib.hid (fun W hL => fmt_any c (by omega) W hL)
        have HU := Lib.hid (fun W => upper_any c (by omega) W)
        have hwc : IntKind.i64.wrap (c : Int) = c := by rw [IntKind.wrap_i64]; omega
        have HA : Hid ((⟨#[64, 123]⟩ : ByteArray) ++ ⟨(hexD c).toArray⟩ ++ ⟨#[125]⟩ = ⟨(64 :: 123 :: (hexD c ++ [125])).toArray⟩) := Lib.hid (by
          have h1 := str_app [64, 123] (hexD c)
          have h2 := str_app ([64, 123] ++ hexD c) [125]
          rw [← h1] at h2
          exact h2)
        have hlen1 : ¬ 9223372036854775807 < 2 + (hexD c).length := by omega
        have hlen2 : ¬ 9223372036854775807 < 2 + (hexD c).length + 1 := by omega
        clear hd h64 hpl ht
        go_enter Tryd.func15, Tryd.ntmps15
        go_wp2_with fail
        refine (HP.out).mono ?_
        rintro e w1 ⟨rfl, rfl⟩
        go_wp2_with fail
        refine (HT.out).mono ?_
        rintro e w2 ⟨rfl, hg2⟩
        have HG2 := Lib.hid hg2
        clear hg2 HT HP
        simp only [Option.isSome_none]
        go_wp2_with fail
        refine (HF.out _ (HL.out.grow HG2.out)).mono ?_
        rintro e w3 ⟨rfl, hg3⟩
        have HG3 := Lib.hid (HG2.out.trans hg3)
        clear hg3 HF HG2
        go_wp2_with fail
        refine (HU.out _).mono ?_
        rintro e w4 ⟨rfl, hg4⟩
        have HG4 := Lib.hid (HG3.out.trans hg4)
        have HO4 := Lib.hid (HO.out.grow HG4.out)
        have hB4 : B ≤ w4.heap.size := Nat.le_trans hB HG4.out.size
        have HB4 := Lib.hid (Below.mono HG4.out hB)
        clear hg4 HG3 HU
        go_wp2_with (at_builtin; refine wpList_append_text rfl _ _ rfl B v q (64 :: 123 :: (hexD c ++ [125])) rfl HO4.out (by rw [← HA.out]; rfl) (by simp only [List.length_cons, List.length_append, List.length_nil]; omega) hB4 ?_; intro v1 w5 ho1 hb1)
        go_ret
        exact ⟨_, rfl, by rw [HE.out]; exact ho1, HB4.out.trans hb1⟩
end Go.Proofs.YtcdjilipmjjjkaaDoor
