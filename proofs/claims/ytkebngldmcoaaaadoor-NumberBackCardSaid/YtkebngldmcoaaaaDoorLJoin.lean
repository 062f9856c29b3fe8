/-
  NumberJoin comes to true, whatever it is called with.
-/
import Derived.Test.YtkebngldmcoaaaaDoorSmall
import Derived.Deep.CutBlock
import Derived.Deep.DeepCutAuto
namespace Go.Proofs.YtkebngldmcoaaaaDoor
open Go.RowKit Go.Lib
set_option linter.unusedSimpArgs false
set_option linter.unusedVariables false

theorem beq_nil_false {l : List UInt8} (h : l ≠ []) : (l == []) = false := by
  cases l with
  | nil => exact absurd rfl h
  | cons c r => rfl
/-- append of whole numbers where a guard says yes -/
theorem wpList_more_ints_w {ops : Array Oper} {rest : List Oper} {o : Oper} {a : Act} {w : World} {Q : Exit → Act → World → Prop} (s x : Operand) (hgd : Region.wanted o (yielded ops a.tmps) = true)
    (ho : o.op = .call { callee := .builtin .append, args := #[s, x], argTypes := #[22, 22] }) (B : Nat) (v : Value) (xs : List Int) (A : Option Addr) (m c : Nat) (ys : List Int)
    (hs : a.eval s = v) (hown : OwnI B v xs w) (hx : a.eval x = .slice A m c) (hm : ys.length = m) (hys : Nums .i64 w w.heap.size A ys) (hb : xs.length + m ≤ 1000000000) (hB : B ≤ w.heap.size)
    (h : ∀ v' w', Hid (OwnI B v' (xs ++ ys) w') → Hid (Below B w w') → wpList Tryd.prog ops Q rest (a.put o.dst v') w') : wpList Tryd.prog ops Q (o :: rest) a w :=
  wpList_step fun K hK => by
    rw [if_pos hgd]
    exact wp_more_ints s x ho B v xs A m c ys hs hown hx hm hys hb hB fun v' w' h1 h2 => hK _ _ (h v' w' h1 h2)
def Fine (w : World) (e : Ending) (w' : World) : Prop := e = .returned (.bool true) ∧ Grow w w'

set_option maxRecDepth 100000 in
set_option maxHeartbeats 3200000 in
theorem ljoin_short (Aa Ab Ac Ad : Option Addr) (na ca nb cb nc cc nd cd : Nat) (w : World) (hL : Laid w) (h1 : na ≤ 9223372036854775807) (h2 : nb ≤ 9223372036854775807) (h3 : nc ≤ 9223372036854775807) (h4 : nd ≤ 9223372036854775807)
    (hbad : ¬ (1 ≤ na ∧ 1 ≤ nb ∧ 1 ≤ nc ∧ 1 ≤ nd ∧ na ≤ 50 ∧ nb ≤ 50 ∧ nc ≤ 50 ∧ nd ≤ 50)) :
    Calls Tryd.prog 6 #[.slice Aa na ca, .slice Ab nb cb, .slice Ac nc cc, .slice Ad nd cd] w (Fine w) := by
  have HS := Lib.hid (fun W h => small_any W h)
  have HL := Lib.hid hL
  clear hL
  go_enter Tryd.func6, Tryd.ntmps6
  go_wp2_with fail
  refine (HS.out _ HL.out).mono ?_
  rintro x w1 ⟨rfl, hg⟩
  have HG1 := Lib.hid hg
  clear hg HS
  by_cases k1 : na < 1
  · have k1i : ((na : Nat) : Int) < 1 := by omega
    clear hbad
    go_wp2
    go_ret
    exact ⟨rfl, HG1.out⟩
  have k1i : ¬ ((na : Nat) : Int) < 1 := by omega
  by_cases k2 : nb < 1
  · have k2i : ((nb : Nat) : Int) < 1 := by omega
    clear hbad
    go_wp2
    go_ret
    exact ⟨rfl, HG1.out⟩
  have k2i : ¬ ((nb : Nat) : Int) < 1 := by omega
  by_cases k3 : nc < 1
  · have k3i : ((nc : Nat) : Int) < 1 := by omega
    clear hbad
    go_wp2
    go_ret
    exact ⟨rfl, HG1.out⟩
  have k3i : ¬ ((nc : Nat) : Int) < 1 := by omega
  by_cases k4 : nd < 1
  · have k4i : ((nd : Nat) : Int) < 1 := by omega
    clear hbad
    go_wp2
    go_ret
    exact ⟨rfl, HG1.out⟩
  have k4i : ¬ ((nd : Nat) : Int) < 1 := by omega
  by_cases k5 : 50 < na
  · have k5i : (50 : Int) < ((na : Nat) : Int) := by omega
    clear hbad
    go_wp2
    go_ret
    exact ⟨rfl, HG1.out⟩
  have k5i : ¬ (50 : Int) < ((na : Nat) : Int) := by omega
  by_cases k6 : 50 < nb
  · have k6i : (50 : Int) < ((nb : Nat) : Int) := by omega
    clear hbad
    go_wp2
    go_ret
    exact ⟨rfl, HG1.out⟩
  have k6i : ¬ (50 : Int) < ((nb : Nat) : Int) := by omega
  by_cases k7 : 50 < nc
  · have k7i : (50 : Int) < ((nc : Nat) : Int) := by omega
    clear hbad
    go_wp2
    go_ret
    exact ⟨rfl, HG1.out⟩
  have k7i : ¬ (50 : Int) < ((nc : Nat) : Int) := by omega
  have k8i : (50 : Int) < ((nd : Nat) : Int) := by omega
  clear hbad
  go_wp2
  go_ret
  exact ⟨rfl, HG1.out⟩

set_option maxRecDepth 100000 in
set_option maxHeartbeats 6400000 in
theorem ljoin_walk (Aa Ab Ac Ad : Option Addr) (na ca nb cb nc cc nd cd : Nat) (xs ys : List Int) (ds es : List Dc) (w : World) (hL : Laid w) (h1 : xs.length = na) (h2 : ys.length = nb) (h3 : ds.length = nc) (h4 : es.length = nd)
    (m1 : na ≤ 9223372036854775807) (m2 : nb ≤ 9223372036854775807) (m3 : nc ≤ 9223372036854775807) (m4 : nd ≤ 9223372036854775807)
    (r1 : Nums .i64 w w.heap.size Aa xs) (r2 : Nums .i64 w w.heap.size Ab ys) (r3 : Decs w w.heap.size Ac ds) (r4 : Decs w w.heap.size Ad es)
    (i1 : ∀ x ∈ xs, In x) (i2 : ∀ x ∈ ys, In x) (i3 : ∀ x ∈ ds, In x.1 ∧ In x.2) (i4 : ∀ x ∈ es, In x.1 ∧ In x.2) :
    Calls Tryd.prog 6 #[.slice Aa na ca, .slice Ab nb cb, .slice Ac nc cc, .slice Ad nd cd] w (Fine w) := by
  by_cases hgood : 1 ≤ na ∧ 1 ≤ nb ∧ 1 ≤ nc ∧ 1 ≤ nd ∧ na ≤ 50 ∧ nb ≤ 50 ∧ nc ≤ 50 ∧ nd ≤ 50
  case neg => exact ljoin_short Aa Ab Ac Ad na ca nb cb nc cc nd cd w hL m1 m2 m3 m4 hgood
  obtain ⟨g1, g2, g3, g4, g5, g6, g7, g8⟩ := hgood
  have HS := Lib.hid (fun W h => small_any W h)
  have HL := Lib.hid hL
  have HR1 := Lib.hid r1
  have HR2 := Lib.hid r2
  have HR3 := Lib.hid r3
  have HR4 := Lib.hid r4
  have HN1 := Lib.hid h1
  have HN2 := Lib.hid h2
  have HN3 := Lib.hid h3
  have HN4 := Lib.hid h4
  have n1 : xs ≠ [] := by intro e; subst e; simp at h1; omega
  have n2 : ys ≠ [] := by intro e; subst e; simp at h2; omega
  have n3 : ds ≠ [] := by intro e; subst e; simp at h3; omega
  have n4 : es ≠ [] := by intro e; subst e; simp at h4; omega
  have HDC := Lib.hid (fun W a b => decs_any Ac nc cc ds W h3 (by omega) a i3 b)
  have HDD := Lib.hid (fun W a b => decs_any Ad nd cd es W h4 (by omega) a i4 b)
  have HDU := Lib.hid (fun A n c W (hn : (ds ++ es).length = n) a b => decs_any A n c (ds ++ es) W hn (by rw [← hn, List.length_append]; omega) a (by intro x hx; rcases List.mem_append.1 hx with h | h; exact i3 x h; exact i4 x h) b)
  have HIA := Lib.hid (fun W a b => ints_any Aa na ca xs W h1 (by omega) a i1 b)
  have HIB := Lib.hid (fun W a b => ints_any Ab nb cb ys W h2 (by omega) a i2 b)
  have HIU := Lib.hid (fun A n c W (hn : (xs ++ ys).length = n) a b => ints_any A n c (xs ++ ys) W hn (by rw [← hn, List.length_append]; omega) a (by intro x hx; rcases List.mem_append.1 hx with h | h; exact i1 x h; exact i2 x h) b)
  rw [ints_app n1 n2] at HIU
  have l1 := ints_len i1
  have l2 := ints_len i2
  have l3 := decs_len (fun d hd => (i3 d hd).1)
  have l4 := decs_len (fun d hd => (i4 d hd).1)
  have L1 : (intsT xs).length ≤ 100000 := by omega
  have L2 : (intsT ys).length ≤ 100000 := by omega
  have L3 : (decsT ds).length ≤ 100000 := by omega
  have L4 : (decsT es).length ≤ 100000 := by omega
  have HCASE : Hid ((decsT ds = [] ∧ decsT (ds ++ es) = []) ∨ (decsT ds ≠ [] ∧ decsT es = [] ∧ decsT (ds ++ es) = []) ∨ (decsT ds ≠ [] ∧ decsT es ≠ [] ∧ decsT (ds ++ es) = decsT ds ++ 32 :: decsT es)) := Lib.hid (by
    cases e1 : decsR ds with
    | false => exact .inl ⟨decs_wrong e1, decs_wrong (by rw [decsR_app, e1]; rfl)⟩
    | true =>
      cases e2 : decsR es with
      | false => exact .inr (.inl ⟨decs_ne n3 e1, decs_wrong e2, decs_wrong (by rw [decsR_app, e1, e2]; rfl)⟩)
      | true => exact .inr (.inr ⟨decs_ne n3 e1, decs_ne n4 e2, decs_app n3 n4 e1 e2⟩))
  have k1 : decide (((na : Nat) : Int) < 1) = false := by rw [decide_eq_false_iff_not]; omega
  have k2 : decide (((nb : Nat) : Int) < 1) = false := by rw [decide_eq_false_iff_not]; omega
  have k3 : decide (((nc : Nat) : Int) < 1) = false := by rw [decide_eq_false_iff_not]; omega
  have k4 : decide (((nd : Nat) : Int) < 1) = false := by rw [decide_eq_false_iff_not]; omega
  have k5 : decide ((50 : Int) < ((na : Nat) : Int)) = false := by rw [decide_eq_false_iff_not]; omega
  have k6 : decide ((50 : Int) < ((nb : Nat) : Int)) = false := by rw [decide_eq_false_iff_not]; omega
  have k7 : decide ((50 : Int) < ((nc : Nat) : Int)) = false := by rw [decide_eq_false_iff_not]; omega
  have k8 : decide ((50 : Int) < ((nd : Nat) : Int)) = false := by rw [decide_eq_false_iff_not]; omega
  have q1 : decide (na < 1) = false := by rw [decide_eq_false_iff_not]; omega
  have q2 : decide (nb < 1) = false := by rw [decide_eq_false_iff_not]; omega
  have q3 : decide (nc < 1) = false := by rw [decide_eq_false_iff_not]; omega
  have q4 : decide (nd < 1) = false := by rw [decide_eq_false_iff_not]; omega
  clear hL r1 r2 r3 r4 i1 i2 i3 i4 l1 l2 l3 l4 n1 n2 n3 n4 h1 h2 h3 h4
  generalize decsT ds = S at *
  generalize decsT es = T at *
  generalize decsT (ds ++ es) = U at *
  generalize intsT xs = X at *
  generalize intsT ys = Y at *
  go_enter Tryd.func6, Tryd.ntmps6
  go_wp2_with fail
  refine (HS.out _ HL.out).mono ?_
  rintro x w1 ⟨rfl, hg⟩
  have HG1 := Lib.hid hg
  clear hg HS
  go_wp2_with fail
  refine (HDC.out _ (HR3.out.grow HG1.out) (HL.out.grow HG1.out).pows).mono ?_
  rintro x w2 ⟨rfl, hg⟩
  have HG2 := Lib.hid (HG1.out.trans hg)
  clear hg HG1 HDC k1 k2 k3 k4 k5 k6 k7 k8 q1 q2 q3 q4
  go_wp2_with fail
  refine (HDD.out _ (HR4.out.grow HG2.out) (HL.out.grow HG2.out).pows).mono ?_
  rintro x w3 ⟨rfl, hg⟩
  have HG3 := Lib.hid (HG2.out.trans hg)
  clear hg HG2 HDD
  obtain ⟨z, hz⟩ : ∃ z, w3.heap.size = z := ⟨_, rfl⟩
  have HZE := Lib.hid hz
  have HE0 : Hid (OwnD w3.heap.size (.slice (some ⟨w3.heap.size, 0, none⟩) 0 0) [] (w3.alloc (.cells #[] 29))) := Lib.hid (own_empty w3 0 29 2)
  have HGE := Lib.hid (grow_new w3 (.cells #[] 29))
  have HC3 := Lib.hid (HR3.out.grow (HG3.out.trans HGE.out))
  clear hz
  go_wp2_with (first
    | (at_builtin; refine wpList_more_decs rfl _ _ rfl w3.heap.size (.slice (some ⟨w3.heap.size, 0, none⟩) 0 0) [] Ac nc cc ds rfl HE0.out rfl HN3.out HC3.out (by simp; omega) HGE.out.size ?_; intro u1 y1 HO1 HB1; have HY1 := Lib.hid (show Grow w3 y1 from Below.trans HGE.out (HB1.out)); have HC4 := Lib.hid (HR4.out.grow (HG3.out.trans HY1.out)))
    | (at_builtin; refine wpList_more_decs rfl _ _ rfl w3.heap.size u1 ([] ++ ds) Ad nd cd es rfl HO1.out rfl HN4.out HC4.out (by have := HN3.out; simp; omega) HY1.out.size ?_; intro u2 y2 HO2 HB2; have HY2 := Lib.hid (show Grow w3 y2 from Below.trans HY1.out (HB2.out)); obtain ⟨Ah, ch, e, hch, hN⟩ := HO2.out.decs; subst e))
  have HG4 := Lib.hid (HG3.out.trans HY2.out)
  refine (HDU.out _ _ _ _ (by simp) (by simpa using hN) (HL.out.grow HG4.out).pows).mono ?_
  rintro x w5 ⟨rfl, hg⟩
  have HG5 := Lib.hid (HG4.out.trans hg)
  clear hg hN hch HDU HO1 HB1 HO2 HB2 HY1 HY2 HC4 HC3 HE0 HGE HR3 HR4 HG3 HG4 HZE
  rcases HCASE.out with ⟨rfl, rfl⟩ | ⟨hs, rfl, rfl⟩ | ⟨hs, ht, rfl⟩
  · go_wp2
    go_ret
    exact ⟨rfl, HG5.out⟩
  · have hsb := beq_nil_false hs
    go_wp2
    go_ret
    exact ⟨rfl, HG5.out⟩
  · have hsb := beq_nil_false hs
    have htb := beq_nil_false ht
    have hc1 : (⟨S.toArray⟩ : ByteArray) ++ ⟨#[32]⟩ = ⟨(S ++ [32]).toArray⟩ := str_app S [32]
    have hc2 : (⟨(S ++ [32]).toArray⟩ : ByteArray) ++ ⟨T.toArray⟩ = ⟨(S ++ 32 :: T).toArray⟩ := by rw [str_app]; simp
    have hc3 : (⟨X.toArray⟩ : ByteArray) ++ ⟨#[32]⟩ = ⟨(X ++ [32]).toArray⟩ := str_app X [32]
    have hc4 : (⟨(X ++ [32]).toArray⟩ : ByteArray) ++ ⟨Y.toArray⟩ = ⟨(X ++ 32 :: Y).toArray⟩ := by rw [str_app]; simp
    have s1 : ¬ 9223372036854775807 < S.length + 1 := by omega
    have s2 : ¬ 9223372036854775807 < S.length + 1 + T.length := by omega
    have s3 : ¬ 9223372036854775807 < X.length + 1 := by omega
    have s4 : ¬ 9223372036854775807 < X.length + 1 + Y.length := by omega
    clear hs ht L1 L2 L3 L4 HCASE
    have HE0 : Hid (OwnI w5.heap.size (.slice (some ⟨w5.heap.size, 0, none⟩) 0 0) [] (w5.alloc (.cells #[] 3))) := Lib.hid (own_empty w5 0 3 1)
    have HGE := Lib.hid (grow_new w5 (.cells #[] 3))
    have HC3 := Lib.hid (HR1.out.grow (HG5.out.trans HGE.out))
    go_wp2_with (first
      | (at_builtin; refine wpList_more_ints_w _ _ rfl rfl w5.heap.size (.slice (some ⟨w5.heap.size, 0, none⟩) 0 0) [] Aa na ca xs rfl HE0.out rfl HN1.out HC3.out (by simp; omega) HGE.out.size ?_; intro u1 y1 HO1 HB1; have HY1 := Lib.hid (show Grow w5 y1 from Below.trans HGE.out (HB1.out)); have HC4 := Lib.hid (HR2.out.grow (HG5.out.trans HY1.out)))
      | (at_builtin; refine wpList_more_ints_w _ _ rfl rfl w5.heap.size u1 ([] ++ xs) Ab nb cb ys rfl HO1.out rfl HN2.out HC4.out (by have := HN1.out; simp; omega) HY1.out.size ?_; intro u2 y2 HO2 HB2; have HY2 := Lib.hid (show Grow w5 y2 from Below.trans HY1.out (HB2.out)); obtain ⟨Ah, ch, e, hch, hN⟩ := HO2.out.nums; subst e))
    have HG6 := Lib.hid (HG5.out.trans HY2.out)
    refine (HIU.out _ _ _ _ (by simp) (by simpa using hN) (HL.out.grow HG6.out).pows).mono ?_
    rintro x w7 ⟨rfl, hg⟩
    have HG7 := Lib.hid (HG6.out.trans hg)
    clear hg hN hch HIU HO1 HB1 HO2 HB2 HY1 HY2 HC4 HC3 HE0 HGE HG5 HG6
    go_wp2_with fail
    refine (HIA.out _ (HR1.out.grow HG7.out) (HL.out.grow HG7.out).pows).mono ?_
    rintro x w8 ⟨rfl, hg⟩
    have HG8 := Lib.hid (HG7.out.trans hg)
    clear hg HIA HG7
    go_wp2_with fail
    refine (HIB.out _ (HR2.out.grow HG8.out) (HL.out.grow HG8.out).pows).mono ?_
    rintro x w9 ⟨rfl, hg⟩
    have HG9 := Lib.hid (HG8.out.trans hg)
    clear hg HIB HG8
    go_wp2
    go_ret
    exact ⟨rfl, HG9.out⟩
end Go.Proofs.YtkebngldmcoaaaaDoor
