/-
  What the document's own Numbers comes to, called with any shape and any numbers.
-/
import Derived.Test.YtcljpcbgokgcdaaJoin
import Derived.Test.YtcljpcbgokgcdaaRValues
import Derived.Deep.CutBlock
import Derived.Deep.DeepCutAuto
import Derived.Deep.RegionLaw
namespace Go.Proofs.Ytcljpcbgokgcdaa
open Go.RowKit Go.Lib
set_option linter.unusedSimpArgs false
set_option linter.unusedVariables false

/-- the kind, number by number -/
def kst (K : Int) (x : Int × Int) : Int := if whlB x = false then 4 else if K = 1 ∧ bitB (whlV x) = false then 2 else K
def kfirst (n : Nat) : Int := if n = 0 then 2 else 1
def kall (n : Nat) (l : List (Int × Int)) : Int := l.foldl kst (kfirst n)
theorem kall_step {n : Nat} {l : List (Int × Int)} {k : Nat} (h : k < l.length) : kall n (l.take (k + 1)) = kst (kall n (l.take k)) (l.getD k (0, 0)) := by
  unfold kall
  rw [List.take_add_one, List.foldl_append]
  simp [List.getD, h]
theorem kst_run : ∀ {l : List (Int × Int)} {K : Int}, (K = 1 ∨ K = 2 ∨ K = 4) → l.foldl kst K = if l.all whlB = true then (if K = 1 ∧ (l.map whlV).all bitB = false then 2 else K) else 4
  | [], K, h => by simp
  | x :: l, K, h => by
    rw [List.foldl_cons]
    have ih := fun K h => kst_run (l := l) (K := K) h
    cases hx : whlB x with
    | false =>
      have e : kst K x = 4 := by simp [kst, hx]
      rw [e, ih 4 (by simp), List.all_cons, hx, Bool.false_and]
      simp
    | true =>
      by_cases hK : K = 1
      · subst hK
        cases hb : bitB (whlV x) with
        | false =>
          have e : kst 1 x = 2 := by simp [kst, hx, hb]
          rw [e, ih 2 (by simp), List.all_cons, hx, Bool.true_and]
          simp [hb]
        | true =>
          have e : kst 1 x = 1 := by simp [kst, hx, hb]
          rw [e, ih 1 (by simp), List.all_cons, hx, Bool.true_and, List.map_cons, List.all_cons, hb, Bool.true_and]
      · have e : kst K x = K := by simp [kst, hx, hK]
        rw [e, ih K h, List.all_cons, hx, Bool.true_and]
        have hn : ¬ (K = 1 ∧ (l.map whlV).all bitB = false) := fun h => hK h.1
        have hn2 : ¬ (K = 1 ∧ ((x :: l).map whlV).all bitB = false) := fun h => hK h.1
        rw [if_neg hn, if_neg hn2]
theorem kall_is (s : List Int) (l : List (Int × Int)) : (leastN s l).kind = kall l.length l ∧ (kall l.length l = 4 → leastN s l = ⟨4, s, [], l⟩) ∧ (kall l.length l ≠ 4 → leastN s l = ⟨kall l.length l, s, l.map whlV, []⟩) := by
  have h := kst_run (l := l) (K := kfirst l.length) (by unfold kfirst; split <;> simp)
  unfold kall
  rw [h]
  cases ha : l.all whlB with
  | false => simp [leastN, ha]
  | true =>
    cases l with
    | nil => simp [leastN, kfirst, kindI]
    | cons x l =>
      have e : kfirst (x :: l).length = 1 := by simp [kfirst]
      cases hb : ((x :: l).map whlV).all bitB with
      | false => simp only [leastN, ha, e, kindI, hb]; simp
      | true => simp only [leastN, ha, e, kindI, hb]; simp
theorem kall_in {n : Nat} {l : List (Int × Int)} : kall n l = 1 ∨ kall n l = 2 ∨ kall n l = 4 := by
  unfold kall
  rw [kst_run (by unfold kfirst; split <;> simp)]
  have : kfirst n = 1 ∨ kfirst n = 2 := by unfold kfirst; split <;> simp
  split
  · split
    · simp
    · rcases this with h | h <;> rw [h] <;> simp
  · simp
theorem ownI_lit00 {B : Nat} (w : World) (hB : B ≤ w.heap.size) : OwnI B (.slice (some ⟨w.heap.size, 0, none⟩) 0 0) [] (w.alloc (.cells #[] 3)) :=
  ⟨rfl, .inr ⟨w.heap.size, 0, #[], rfl, hB, heap_alloc_new w _, Nat.le_refl _, Nat.zero_le _, rfl, rfl⟩⟩
theorem BoxN.kindS {w : World} {b : Nat} {k : Int} {A1 A2 A3 : Option Addr} {l1 c1 l2 c2 l3 c3 : Nat} (h : BoxN w b k A1 l1 c1 A2 l2 c2 A3 l3 c3) (k' : Int) : BoxN (w.setCell ⟨b, 0, none⟩ (.int .i64 k')) b k' A1 l1 c1 A2 l2 c2 A3 l3 c3 :=
  heap_setCell_same w b 0 _ _ (.int .i64 k') h
theorem BoxN.intsS {w : World} {b : Nat} {k : Int} {A1 A2 A3 : Option Addr} {l1 c1 l2 c2 l3 c3 : Nat} (h : BoxN w b k A1 l1 c1 A2 l2 c2 A3 l3 c3) (A' : Option Addr) (l' c' : Nat) : BoxN (w.setCell ⟨b, 2, none⟩ (.slice A' l' c')) b k A1 l1 c1 A' l' c' A3 l3 c3 :=
  heap_setCell_same w b 2 _ _ (.slice A' l' c') h
theorem BoxN.decsS {w : World} {b : Nat} {k : Int} {A1 A2 A3 : Option Addr} {l1 c1 l2 c2 l3 c3 : Nat} (h : BoxN w b k A1 l1 c1 A2 l2 c2 A3 l3 c3) (A' : Option Addr) (l' c' : Nat) : BoxN (w.setCell ⟨b, 3, none⟩ (.slice A' l' c')) b k A1 l1 c1 A2 l2 c2 A' l' c' :=
  heap_setCell_same w b 3 _ _ (.slice A' l' c') h
theorem below_put {B b : Nat} {w w' : World} (h : Below B w w') (hb : B ≤ b) (j : Nat) (v : Value) : Below B w (w'.setCell ⟨b, j, none⟩ v) := Below.setCell h hb v
theorem all_dec {l : List (Int × Int)} {k : Nat} (h : k < l.length) : (l.take (k + 1)).all decB = ((l.take k).all decB && decB (l.getD k (0, 0))) := by
  rw [List.take_add_one, List.all_append]
  simp [List.getD, h]
theorem all_dec_no {l : List (Int × Int)} {k : Nat} (h : k < l.length) (hx : decB (l.getD k (0, 0)) = false) : l.all decB = false := by
  rw [show l.getD k (0, 0) = l[k] by simp [List.getD, h]] at hx
  rw [List.all_eq_false]
  exact ⟨l[k], List.getElem_mem h, by rw [hx]; simp⟩
theorem whl_step {l : List (Int × Int)} {k : Nat} (h : k < l.length) : (l.take (k + 1)).map whlV = (l.take k).map whlV ++ [whlV (l.getD k (0, 0))] := by
  rw [List.take_add_one, List.map_append]
  congr 1
  simp [List.getD, h]
theorem nums_lit1 (w : World) (v : Int) : Nums .i64 (w.alloc (.cells #[.int .i64 v] 3)) (w.alloc (.cells #[.int .i64 v] 3)).heap.size (some ⟨w.heap.size, 0, none⟩) [v] :=
  nums_cells (xs := [v]) (heap_alloc_new w _)
theorem BoxN.same {w w' : World} {b : Nat} {k : Int} {A1 A2 A3 : Option Addr} {l1 c1 l2 c2 l3 c3 : Nat} (h : BoxN w b k A1 l1 c1 A2 l2 c2 A3 l3 c3) (e : w'.heap[b]? = w.heap[b]?) : BoxN w' b k A1 l1 c1 A2 l2 c2 A3 l3 c3 := e.trans h
theorem own_put {w : World} {b : Nat} {v : Value} {xs : List Int} (h : OwnI (b + 1) v xs w) (j : Nat) (u : Value) : OwnI (b + 1) v xs (w.setCell ⟨b, j, none⟩ u) := own_keep h fun q hq => heap_setCell_other w ⟨b, j, none⟩ q u (show q ≠ b by omega)
theorem own_putD {w : World} {b : Nat} {v : Value} {xs : List (Int × Int)} (h : OwnD (b + 1) v xs w) (j : Nat) (u : Value) : OwnD (b + 1) v xs (w.setCell ⟨b, j, none⟩ u) := own_keep h fun q hq => heap_setCell_other w ⟨b, j, none⟩ q u (show q ≠ b by omega)
theorem dec_step {l : List (Int × Int)} {k : Nat} (h : k < l.length) : l.take (k + 1) = l.take k ++ [l.getD k (0, 0)] := by
  rw [List.take_add_one]
  simp [List.getD, h]
theorem step_more_decs {ops : Array Oper} {o : Oper} {a : Act} {w : World} {K : Act → World → Prop} {Q : Exit → Act → World → Prop} {E : Prop} (hg : o.guard = none) (s x : Operand)
    (ho : o.op = .call { callee := .builtin .append, args := #[s, x], argTypes := #[24, 24] }) (B : Nat) (v : Value) (xs : List (Int × Int)) (A : Option Addr) (m c : Nat) (ys : List (Int × Int))
    (hs : a.eval s = v) (hown : OwnD B v xs w) (hx : a.eval x = .slice A m c) (hm : ys.length = m) (hys : Decs w w.heap.size A ys) (hb : xs.length + m ≤ 1000000000) (hB : B ≤ w.heap.size)
    (h : ∀ v' w', Hid (OwnD B v' (xs ++ ys) w') → Hid (Below B w w') → Hid (Apart v v' w w') → K (a.put o.dst v') w') :
    if Region.wanted o (yielded ops a.tmps) = true then Oper.wp Try.prog o a w K Q else E := by
  rw [if_pos (by simp [Region.wanted, hg])]
  exact wp_more_decs s x ho B v xs A m c ys hs hown hx hm hys hb hB h
-- WALK
def Wrong (s : List Int) (l : List (Int × Int)) : Prop := numO s l = none
set_option maxRecDepth 10000 in
set_option maxHeartbeats 6400000 in
theorem rnumbers_any (A1 : Option Addr) (n1 c1 : Nat) (s : List Int) (A : Option Addr) (n c : Nat) (l : List (Int × Int)) (w : World) (hs : s.length = n1) (hs1 : n1 ≤ 1100000) (hsh : Nums .i64 w w.heap.size A1 s)
    (hn : l.length = n) (hm : n ≤ 1100000) (hi : ∀ x ∈ l, In x.1 ∧ In x.2) (hr : Decs w w.heap.size A l) :
    Calls Try.prog 14 #[.slice A1 n1 c1, .slice A n c] w (OneP (fun b => w.heap.size ≤ b) (numO s l) w) := by
  obtain ⟨rb, hrb⟩ : ∃ rb, w.heap.size = rb := ⟨_, rfl⟩
  have hbx := boxN_new w 0 none 0 0 none 0 0 none 0 0
  rw [hrb] at hbx
  have hg1 := grow_new w (.cells #[.int .i64 0, .slice none 0 0, .slice none 0 0, .slice none 0 0] 30)
  have HC := Lib.hid (fun W h => rcount_any A1 n1 c1 s W hs (by omega) h)
  have HO : Hid (numO s l = if rightB s = true ∧ cnt s = n ∧ l.all decB = true then some (leastN s l) else none) := Lib.hid (by unfold numO; rw [hn])
  have HKL := Lib.hid (kall_is s l)
  rw [hn] at HKL
  have HS0 := Lib.hid (hsh.grow hg1)
  have HD0 := Lib.hid (hr.grow hg1)
  have HDR := Lib.hid hr
  have HRB := Lib.hid hrb
  have HBX := Lib.hid hbx
  have HG1 := Lib.hid hg1
  have HSL := Lib.hid hs
  have HLN := Lib.hid hn
  have HIN := Lib.hid hi
  have hcb := cnt_le1 s
  clear hbx hg1 hs hsh hn hi hr
  generalize rightB s = β at *
  generalize cnt s = cs at *
  by_cases hnc : n = cs
  rotate_left
  · have hne : (((cs : Nat) : Int) != ((n : Nat) : Int)) = true := by simp; omega
    have HN : Hid (numO s l = none) := Lib.hid (by rw [HO.out, if_neg]; rintro ⟨_, h, _⟩; exact hnc h.symm)
    cases β with
    | false =>
      go_enter Try.func14, Try.ntmps14
      go_wp2_with fail
      refine (HC.out _ HS0.out).mono ?_
      rintro e w2 ⟨rfl, rfl⟩
      go_wp2
      have hb := boxN_new w 0 none 0 0 none 0 0 none 0 0
      rw [HRB.out] at hb
      refine bodyPost_ret (v := .tuple #[.agg #[.int .i64 0, .slice none 0 0, .slice none 0 0, .slice none 0 0], .bool false]) (by simp [results, Try.results14, go_sem, hb.at0, hb.at1, hb.at2, hb.at3]) rfl ?_
      exact OneP.no HN.out HG1.out
    | true =>
      go_enter Try.func14, Try.ntmps14
      go_wp2_with fail
      refine (HC.out _ HS0.out).mono ?_
      rintro e w2 ⟨rfl, rfl⟩
      go_wp2
      have hb := boxN_new w 0 none 0 0 none 0 0 none 0 0
      rw [HRB.out] at hb
      refine bodyPost_ret (v := .tuple #[.agg #[.int .i64 0, .slice none 0 0, .slice none 0 0, .slice none 0 0], .bool false]) (by simp [results, Try.results14, go_sem, hb.at0, hb.at1, hb.at2, hb.at3]) rfl ?_
      exact OneP.no HN.out HG1.out
  · subst hnc
    have hne : (((n : Nat) : Int) != ((n : Nat) : Int)) = false := by simp
    cases β with
    | false =>
      have HN : Hid (numO s l = none) := Lib.hid (by rw [HO.out, if_neg]; rintro ⟨h, _, _⟩; cases h)
      go_enter Try.func14, Try.ntmps14
      go_wp2_with fail
      refine (HC.out _ HS0.out).mono ?_
      rintro e w2 ⟨rfl, rfl⟩
      go_wp2
      have hb := boxN_new w 0 none 0 0 none 0 0 none 0 0
      rw [HRB.out] at hb
      refine bodyPost_ret (v := .tuple #[.agg #[.int .i64 0, .slice none 0 0, .slice none 0 0, .slice none 0 0], .bool false]) (by simp [results, Try.results14, go_sem, hb.at0, hb.at1, hb.at2, hb.at3]) rfl ?_
      exact OneP.no HN.out HG1.out
    | true =>
      go_enter Try.func14, Try.ntmps14
      go_wp2_with fail
      refine (HC.out _ HS0.out).mono ?_
      rintro e w2 ⟨rfl, rfl⟩
      go_upto_region 4 with fail
      obtain ⟨w1, hw1⟩ : ∃ w1, w1 = w.alloc (.cells #[.int .i64 0, .slice none 0 0, .slice none 0 0, .slice none 0 0] 30) := ⟨_, rfl⟩
      rw [← hw1] at HBX HG1 HS0 HD0 ⊢
      clear hw1
      have hg2 := grow_new w1 (.cells #[] 3)
      have HE := Lib.hid (ownI_lit00 (B := rb + 1) w1 HBX.out.lt)
      have HS2 := Lib.hid (HS0.out.grow hg2)
      have HZ2 : Hid (rb + 1 ≤ (w1.alloc (.cells #[] 3)).heap.size) := Lib.hid (Nat.le_trans HBX.out.lt hg2.size)
      have HG2 := Lib.hid hg2
      clear hg2
      go_upto_region 5 with (at_builtin; refine wpList_more_ints rfl _ _ rfl (rb + 1) (.slice (some ⟨w1.heap.size, 0, none⟩) 0 0) [] A1 n1 c1 s rfl HE.out rfl HSL.out HS2.out (by simp; omega) HZ2.out ?_; intro v3 w3 HO3 HB3 HA3; obtain ⟨As, cA, e3, hcA, hNA⟩ := HO3.out.new; rw [List.nil_append, HSL.out] at e3; subst e3)
      have hob := boxN_new w3 1 As n1 cA none 0 0 none 0 0
      have hga := grow_new w3 (.cells #[.int .i64 1, .slice As n1 cA, .slice none 0 0, .slice none 0 0] 30)
      obtain ⟨w4, hw4⟩ : ∃ w4, w4 = w3.alloc (.cells #[.int .i64 1, .slice As n1 cA, .slice none 0 0, .slice none 0 0] 30) := ⟨_, rfl⟩
      rw [← hw4] at hob hga ⊢
      obtain ⟨ob, hbo⟩ : ∃ ob, w3.heap.size = ob := ⟨_, rfl⟩
      have hrbo : rb < ob := by rw [← hbo]; have h1 := HB3.out.size; have h2 := HZ2.out; omega
      have HBR : Hid (BoxN w4 rb 0 none 0 0 none 0 0 none 0 0) := Lib.hid ((hga.block rb (by rw [hbo]; exact hrbo)).trans ((HB3.out.block rb (Nat.lt_succ_self rb)).trans (HBX.out.grow HG2.out)))
      have HNS : Hid (NumsT (fun b => rb < b ∧ b < ob) w4 As s) := Lib.hid (hNA.keep fun b hb => ⟨⟨hb.1, by rw [← hbo]; exact hb.2⟩, hga.block b hb.2⟩)
      have HGW : Hid (Below rb w w4) := Lib.hid (by
        have h1 := HG1.out.trans HG2.out
        unfold Grow at h1
        rw [HRB.out] at h1
        exact Below.trans (Below.trans h1 (Below.mono HB3.out (Nat.le_succ rb))) (Below.mono hga (by rw [hbo]; omega)))
      have HR0 : Hid (Decs w rb A l) := Lib.hid (by have h := HDR.out; rw [HRB.out] at h; exact h)
      rw [hbo] at hob ⊢
      have HBO := Lib.hid hob
      clear hob hga hw4 hbo hNA HO3 HB3 HA3 HZ2 HS2 HE HG2 HBX HG1 HS0 HD0 HDR hcA
      by_cases hn0 : n = 0
      · subst hn0
        have HL0 : Hid (l = []) := Lib.hid (List.eq_nil_of_length_eq_zero HLN.out)
        have HN : Hid (numO s l = some ⟨2, s, [], []⟩) := Lib.hid (by rw [HO.out, HL0.out]; rfl)
        have f0 := HBO.out.froz 0
        have d0 := HBO.out.at0
        go_wp2
        have HOX := Lib.hid (HBO.out.kindS 2)
        have HGL : Hid (Below ob w4 (w4.setCell ⟨ob, 0, none⟩ (.int .i64 2))) := Lib.hid (below_put (Below.refl ob w4) (Nat.le_refl ob) 0 (.int .i64 2))
        clear f0 d0
        generalize w4.setCell ⟨ob, 0, none⟩ (.int .i64 2) = w5 at *
        go_loopg [9] 0 (fun g s9 wr => s9 = .int .i64 0 ∧ g = 0 ∧ w5 = wr)
        case atStart => exact ⟨rfl, rfl, rfl⟩
        case round =>
          obtain ⟨rfl, rfl, rfl⟩ := hrel
          go_wp2
          go_loopg [13] 0 (fun g s13 wr => s13 = .int .i64 0 ∧ g = 0 ∧ w5 = wr)
          case atStart => exact ⟨rfl, rfl, rfl⟩
          case round =>
            obtain ⟨rfl, rfl, rfl⟩ := hrel
            have HBQ : Hid (BoxN w5 rb 0 none 0 0 none 0 0 none 0 0) := Lib.hid ((HGL.out.block rb hrbo).trans HBR.out)
            have HGQ : Hid (Grow w w5) := Lib.hid (show Below w.heap.size w w5 by rw [HRB.out]; exact Below.trans HGW.out (Below.mono HGL.out (Nat.le_of_lt hrbo)))
            have hox := HOX.out
            have e0 := hox.at0
            have e1 := hox.at1
            have e2 := hox.at2
            have e3 := hox.at3
            clear hox
            have hbx := HBQ.out
            have f0 := hbx.froz 0
            have f1 := hbx.froz 1
            have f2 := hbx.froz 2
            have f3 := hbx.froz 3
            have d0 := hbx.at0
            have d1 := hbx.at1
            have d2 := hbx.at2
            have d3 := hbx.at3
            clear hbx
            go_wp2
            have hle : w.heap.size ≤ rb := by rw [HRB.out]; exact Nat.le_refl _
            have hb := HBQ.out.store 2 As none none n1 cA 0 0 0 0
            have hg := (((HGQ.out.put hle 0 (.int .i64 2)).put hle 1 (.slice As n1 cA)).put hle 2 (.slice none 0 0)).put hle 3 (.slice none 0 0)
            have hkp : ∀ b, rb < b → b < w5.heap.size → ((((w5.setCell ⟨rb, 0, none⟩ (.int .i64 2)).setCell ⟨rb, 1, none⟩ (.slice As n1 cA)).setCell ⟨rb, 2, none⟩ (.slice none 0 0)).setCell ⟨rb, 3, none⟩ (.slice none 0 0)).heap[b]? = w5.heap[b]? := fun b h1 h2 => (kept_store (w := w5) (b := rb) _ _ _ _).block b h2 (by show ¬ b = rb; omega)
            refine bodyPost_ret (v := .tuple #[.agg #[.int .i64 2, .slice As n1 cA, .slice none 0 0, .slice none 0 0], .bool true]) (by simp [results, Try.results14, go_sem, hb.at0, hb.at1, hb.at2, hb.at3]) rfl ?_
            have hns : NumsT (fun b => rb < b ∧ b < ob) w5 As s := HNS.out.keep fun b hb => ⟨hb, HGL.out.block b hb.2⟩
            exact OneP.yes HN.out hg ⟨As, cA, none, 0, none, 0, by rw [← HSL.out]; rfl, hns.keep fun b hb2 => ⟨by first | omega | (rw [HRB.out]; omega), hkp b hb2.1 (Nat.lt_trans hb2.2 HOX.out.lt)⟩, NumsT.nil_, DecsT.nil_⟩
      have hnz : ((n : Int) == 0) = false := by simp; omega
      go_wp2
      go_loopg [9] n (fun g s9 wr => ∃ (k : Nat) (K : Int), k ≤ n ∧ g = n - k ∧ s9 = .int .i64 k ∧ Hid (K = kall n (l.take k)) ∧ (K = 1 ∨ K = 2 ∨ K = 4) ∧ Hid ((l.take k).all decB = true) ∧ Hid (BoxN wr ob K As n1 cA none 0 0 none 0 0) ∧ Hid (Below ob w4 wr))
      case atStart => exact ⟨0, 1, Nat.zero_le _, rfl, rfl, Lib.hid (by simp [kall, kfirst, hn0]), by simp, Lib.hid rfl, HBO, Lib.hid (Below.refl _ _)⟩
      case round =>
        obtain ⟨k, K, hk, rfl, rfl, HKK, hK, HDB, HBJ, HGL⟩ := hrel
        have HOB := Lib.hid (Nat.le_of_lt HBJ.out.lt)
        by_cases hlt : k < n
        · have hlti : ((k : Nat) : Int) < ((n : Nat) : Int) := by omega
          have hkl : k < l.length := by rw [HLN.out]; exact hlt
          obtain ⟨b, off, rfl, hb, hcl⟩ := (HR0.out.below (Below.trans HGW.out (Below.mono HGL.out (Nat.le_of_lt hrbo)))) (by omega)
          obtain ⟨hc1, hc2⟩ := hcl k hkl
          have hin := in_at HIN.out k
          have HKS := Lib.hid (kall_step (n := n) hkl)
          have HAS := Lib.hid (all_dec hkl)
          have HAF := Lib.hid (fun h => all_dec_no hkl h)
          clear hcl hkl hb
          generalize l.getD k (0, 0) = x at *
          obtain ⟨x1, x2⟩ := x
          dsimp only at hc1 hc2 hin
          have HC1 := Lib.hid (fun W => rright_any x1 x2 W hin.1 hin.2)
          have HC2 := Lib.hid (fun W => rwhole_any x1 x2 W hin.1 hin.2)
          have hdd : decB (x1, x2) = rightD x1 x2 := rfl
          rw [hdd] at HAS HAF
          clear hdd hin
          obtain ⟨dx, hdx⟩ : ∃ dx, rightD x1 x2 = dx := ⟨_, rfl⟩
          rw [hdx] at HC1 HAS HAF
          clear hdx
          cases dx with
          | false =>
            have HNO : Hid (l.all decB = false) := Lib.hid (HAF.out rfl)
            have HN : Hid (numO s l = none) := Lib.hid (by rw [HO.out, if_neg]; rintro ⟨_, _, h⟩; rw [HNO.out] at h; cases h)
            go_wp2_with fail
            refine (HC1.out _).mono ?_
            rintro e w6 ⟨rfl, hg6⟩
            have HL6 := Lib.hid (Below.trans HGL.out (Below.mono hg6 HOB.out))
            have HBQ : Hid (BoxN w6 rb 0 none 0 0 none 0 0 none 0 0) := Lib.hid ((HL6.out.block rb hrbo).trans HBR.out)
            have HGQ : Hid (Grow w w6) := Lib.hid (show Below w.heap.size w w6 by rw [HRB.out]; exact Below.trans HGW.out (Below.mono HL6.out (Nat.le_of_lt hrbo)))
            clear hg6 HC1 HC2 hc1 hc2 HBJ HGL
            have hbx := HBQ.out
            have f0 := hbx.froz 0
            have f1 := hbx.froz 1
            have f2 := hbx.froz 2
            have f3 := hbx.froz 3
            have d0 := hbx.at0
            have d1 := hbx.at1
            have d2 := hbx.at2
            have d3 := hbx.at3
            clear hbx
            go_wp2
            have hle : w.heap.size ≤ rb := by rw [HRB.out]; exact Nat.le_refl _
            have hb := HBQ.out.store 0 none none none 0 0 0 0 0 0
            have hg := (((HGQ.out.put hle 0 (.int .i64 0)).put hle 1 (.slice none 0 0)).put hle 2 (.slice none 0 0)).put hle 3 (.slice none 0 0)
            refine bodyPost_ret (v := .tuple #[.agg #[.int .i64 0, .slice none 0 0, .slice none 0 0, .slice none 0 0], .bool false]) (by simp [results, Try.results14, go_sem, hb.at0, hb.at1, hb.at2, hb.at3]) rfl ?_
            exact OneP.no HN.out hg
          | true =>
            have HDT : Hid (true = true) := Lib.hid rfl
            have hwb : whlB (x1, x2) = (wholeD x1 x2).2 := rfl
            have hwv : whlV (x1, x2) = (wholeD x1 x2).1 := rfl
            have HKF : Hid (kst K (x1, x2) = if (wholeD x1 x2).2 = false then 4 else if K = 1 ∧ bitB (wholeD x1 x2).1 = false then 2 else K) := Lib.hid rfl
            clear hwb hwv HAF
            generalize wholeD x1 x2 = vw at *
            obtain ⟨v, β⟩ := vw
            dsimp only at HC2 HKF
            cases β with
            | false =>
              have HKV : Hid (kst K (x1, x2) = 4) := Lib.hid (by rw [HKF.out, if_pos rfl])
              clear HKF
              go_wp2_with fail
              refine (HC1.out _).mono ?_
              rintro e w6 ⟨rfl, hg6⟩
              have HB6 := Lib.hid (HBJ.out.grow hg6)
              have HL6 := Lib.hid (Below.trans HGL.out (Below.mono hg6 HOB.out))
              have p0' := (hg6.cell (p := ⟨b, off + k * 2, none⟩) (block_lt_of_cell hc1)).trans hc1
              have p1' := (hg6.cell (p := ⟨b, off + k * 2 + 1, none⟩) (block_lt_of_cell hc2)).trans hc2
              clear hg6 HC1 HBJ HGL
              go_wp2_with fail
              refine (HC2.out _).mono ?_
              rintro e w7 ⟨rfl, hg7⟩
              have HOB7 := Lib.hid (Nat.le_of_lt HB6.out.lt)
              have HB7 := Lib.hid (HB6.out.grow hg7)
              have HL7 := Lib.hid (Below.trans HL6.out (Below.mono hg7 HOB7.out))
              have f0 := HB7.out.froz 0
              have d0 := HB7.out.at0
              clear hg7 HC2 HB6 HL6 p0' p1' hc1 hc2
              go_wp2
              go_roundg (n - (k + 1))
              case rel => exact ⟨k + 1, 4, by omega, rfl, by go_num, Lib.hid (by rw [HKS.out, ← HKK.out]; exact HKV.out.symm), by simp, Lib.hid (by rw [HAS.out, HDB.out]; rfl), Lib.hid (HB7.out.kindS 4), Lib.hid (below_put HL7.out (Nat.le_refl ob) 0 (.int .i64 4))⟩
              case measure => omega
            | true =>
              have HKG : Hid (kst K (x1, x2) = if K = 1 ∧ bitB v = false then 2 else K) := Lib.hid (by rw [HKF.out, if_neg (by simp)])
              clear HKF
              rcases hK with rfl | rfl | rfl
              · by_cases h0 : v = 0
                · subst h0
                  have HKV : Hid (kst 1 (x1, x2) = 1) := Lib.hid (by rw [HKG.out]; rfl)
                  clear HKG
                  go_wp2_with fail
                  refine (HC1.out _).mono ?_
                  rintro e w6 ⟨rfl, hg6⟩
                  have HB6 := Lib.hid (HBJ.out.grow hg6)
                  have HL6 := Lib.hid (Below.trans HGL.out (Below.mono hg6 HOB.out))
                  have p0' := (hg6.cell (p := ⟨b, off + k * 2, none⟩) (block_lt_of_cell hc1)).trans hc1
                  have p1' := (hg6.cell (p := ⟨b, off + k * 2 + 1, none⟩) (block_lt_of_cell hc2)).trans hc2
                  clear hg6 HC1 HBJ HGL
                  go_wp2_with fail
                  refine (HC2.out _).mono ?_
                  rintro e w7 ⟨rfl, hg7⟩
                  have HOB7 := Lib.hid (Nat.le_of_lt HB6.out.lt)
                  have HB7 := Lib.hid (HB6.out.grow hg7)
                  have HL7 := Lib.hid (Below.trans HL6.out (Below.mono hg7 HOB7.out))
                  have f0 := HB7.out.froz 0
                  have d0 := HB7.out.at0
                  clear hg7 HC2 HB6 HL6 p0' p1' hc1 hc2
                  go_wp2
                  go_roundg (n - (k + 1))
                  case rel => exact ⟨k + 1, 1, by omega, rfl, by go_num, Lib.hid (by rw [HKS.out, ← HKK.out]; exact HKV.out.symm), by simp, Lib.hid (by rw [HAS.out, HDB.out]; rfl), HB7, HL7⟩
                  case measure => omega
                · by_cases h1 : v = 1
                  · subst h1
                    have HKV : Hid (kst 1 (x1, x2) = 1) := Lib.hid (by rw [HKG.out]; rfl)
                    clear HKG h0
                    go_wp2_with fail
                    refine (HC1.out _).mono ?_
                    rintro e w6 ⟨rfl, hg6⟩
                    have HB6 := Lib.hid (HBJ.out.grow hg6)
                    have HL6 := Lib.hid (Below.trans HGL.out (Below.mono hg6 HOB.out))
                    have p0' := (hg6.cell (p := ⟨b, off + k * 2, none⟩) (block_lt_of_cell hc1)).trans hc1
                    have p1' := (hg6.cell (p := ⟨b, off + k * 2 + 1, none⟩) (block_lt_of_cell hc2)).trans hc2
                    clear hg6 HC1 HBJ HGL
                    go_wp2_with fail
                    refine (HC2.out _).mono ?_
                    rintro e w7 ⟨rfl, hg7⟩
                    have HOB7 := Lib.hid (Nat.le_of_lt HB6.out.lt)
                    have HB7 := Lib.hid (HB6.out.grow hg7)
                    have HL7 := Lib.hid (Below.trans HL6.out (Below.mono hg7 HOB7.out))
                    have f0 := HB7.out.froz 0
                    have d0 := HB7.out.at0
                    clear hg7 HC2 HB6 HL6 p0' p1' hc1 hc2
                    go_wp2
                    go_roundg (n - (k + 1))
                    case rel => exact ⟨k + 1, 1, by omega, rfl, by go_num, Lib.hid (by rw [HKS.out, ← HKK.out]; exact HKV.out.symm), by simp, Lib.hid (by rw [HAS.out, HDB.out]; rfl), HB7, HL7⟩
                    case measure => omega
                  · have h0' : (v != 0) = true := by simpa using h0
                    have h1' : (v != 1) = true := by simpa using h1
                    have HKV : Hid (kst 1 (x1, x2) = 2) := Lib.hid (by rw [HKG.out, if_pos ⟨rfl, by simp [bitB, h0, h1]⟩])
                    clear HKG h0 h1
                    go_wp2_with fail
                    refine (HC1.out _).mono ?_
                    rintro e w6 ⟨rfl, hg6⟩
                    have HB6 := Lib.hid (HBJ.out.grow hg6)
                    have HL6 := Lib.hid (Below.trans HGL.out (Below.mono hg6 HOB.out))
                    have p0' := (hg6.cell (p := ⟨b, off + k * 2, none⟩) (block_lt_of_cell hc1)).trans hc1
                    have p1' := (hg6.cell (p := ⟨b, off + k * 2 + 1, none⟩) (block_lt_of_cell hc2)).trans hc2
                    clear hg6 HC1 HBJ HGL
                    go_wp2_with fail
                    refine (HC2.out _).mono ?_
                    rintro e w7 ⟨rfl, hg7⟩
                    have HOB7 := Lib.hid (Nat.le_of_lt HB6.out.lt)
                    have HB7 := Lib.hid (HB6.out.grow hg7)
                    have HL7 := Lib.hid (Below.trans HL6.out (Below.mono hg7 HOB7.out))
                    have f0 := HB7.out.froz 0
                    have d0 := HB7.out.at0
                    clear hg7 HC2 HB6 HL6 p0' p1' hc1 hc2
                    go_wp2
                    go_roundg (n - (k + 1))
                    case rel => exact ⟨k + 1, 2, by omega, rfl, by go_num, Lib.hid (by rw [HKS.out, ← HKK.out]; exact HKV.out.symm), by simp, Lib.hid (by rw [HAS.out, HDB.out]; rfl), Lib.hid (HB7.out.kindS 2), Lib.hid (below_put HL7.out (Nat.le_refl ob) 0 (.int .i64 2))⟩
                    case measure => omega
              · have HKV : Hid (kst 2 (x1, x2) = 2) := Lib.hid (by rw [HKG.out, if_neg (by simp)])
                clear HKG
                go_wp2_with fail
                refine (HC1.out _).mono ?_
                rintro e w6 ⟨rfl, hg6⟩
                have HB6 := Lib.hid (HBJ.out.grow hg6)
                have HL6 := Lib.hid (Below.trans HGL.out (Below.mono hg6 HOB.out))
                have p0' := (hg6.cell (p := ⟨b, off + k * 2, none⟩) (block_lt_of_cell hc1)).trans hc1
                have p1' := (hg6.cell (p := ⟨b, off + k * 2 + 1, none⟩) (block_lt_of_cell hc2)).trans hc2
                clear hg6 HC1 HBJ HGL
                go_wp2_with fail
                refine (HC2.out _).mono ?_
                rintro e w7 ⟨rfl, hg7⟩
                have HOB7 := Lib.hid (Nat.le_of_lt HB6.out.lt)
                have HB7 := Lib.hid (HB6.out.grow hg7)
                have HL7 := Lib.hid (Below.trans HL6.out (Below.mono hg7 HOB7.out))
                have f0 := HB7.out.froz 0
                have d0 := HB7.out.at0
                clear hg7 HC2 HB6 HL6 p0' p1' hc1 hc2
                go_wp2
                go_roundg (n - (k + 1))
                case rel => exact ⟨k + 1, 2, by omega, rfl, by go_num, Lib.hid (by rw [HKS.out, ← HKK.out]; exact HKV.out.symm), by simp, Lib.hid (by rw [HAS.out, HDB.out]; rfl), HB7, HL7⟩
                case measure => omega
              · have HKV : Hid (kst 4 (x1, x2) = 4) := Lib.hid (by rw [HKG.out, if_neg (by simp)])
                clear HKG
                go_wp2_with fail
                refine (HC1.out _).mono ?_
                rintro e w6 ⟨rfl, hg6⟩
                have HB6 := Lib.hid (HBJ.out.grow hg6)
                have HL6 := Lib.hid (Below.trans HGL.out (Below.mono hg6 HOB.out))
                have p0' := (hg6.cell (p := ⟨b, off + k * 2, none⟩) (block_lt_of_cell hc1)).trans hc1
                have p1' := (hg6.cell (p := ⟨b, off + k * 2 + 1, none⟩) (block_lt_of_cell hc2)).trans hc2
                clear hg6 HC1 HBJ HGL
                go_wp2_with fail
                refine (HC2.out _).mono ?_
                rintro e w7 ⟨rfl, hg7⟩
                have HOB7 := Lib.hid (Nat.le_of_lt HB6.out.lt)
                have HB7 := Lib.hid (HB6.out.grow hg7)
                have HL7 := Lib.hid (Below.trans HL6.out (Below.mono hg7 HOB7.out))
                have f0 := HB7.out.froz 0
                have d0 := HB7.out.at0
                clear hg7 HC2 HB6 HL6 p0' p1' hc1 hc2
                go_wp2
                go_roundg (n - (k + 1))
                case rel => exact ⟨k + 1, 4, by omega, rfl, by go_num, Lib.hid (by rw [HKS.out, ← HKK.out]; exact HKV.out.symm), by simp, Lib.hid (by rw [HAS.out, HDB.out]; rfl), HB7, HL7⟩
                case measure => omega
        · obtain rfl : n = k := by omega
          have hnn : ¬ ((n : Nat) : Int) < ((n : Nat) : Int) := by omega
          have HTA := Lib.hid (show l.take n = l from List.take_of_length_le (by rw [HLN.out]; exact Nat.le_refl _))
          rw [HTA.out] at HKK HDB
          have HNM : Hid (numO s l = some (leastN s l)) := Lib.hid (by rw [HO.out, if_pos ⟨by trivial, by trivial, HDB.out⟩])
          obtain ⟨w5, hw5⟩ : ∃ w5, w5 = wr := ⟨_, rfl⟩
          subst hw5
          clear hlt
          by_cases hk4 : K = 4
          · subst hk4
            have HM : Hid (numO s l = some ⟨4, s, [], l⟩) := Lib.hid (by rw [HNM.out, HKL.out.2.1 HKK.out.symm])
            clear HNM HKK hK
            have hm4 : n ≤ 1100000 := hm
            go_wp2
            go_loopg [13] n (fun g s13 wr => ∃ (k : Nat) (A3 : Option Addr) (c3 : Nat), k ≤ n ∧ g = n - k ∧ s13 = .int .i64 k ∧ Hid (BoxN wr ob 4 As n1 cA none 0 0 A3 k c3) ∧ Hid (OwnD (ob + 1) (.slice A3 k c3) (l.take k) wr) ∧ Hid (Below ob w4 wr))
            case atStart => exact ⟨0, none, 0, Nat.zero_le _, rfl, rfl, HBJ, Lib.hid (ownD_nil _ _), HGL⟩
            case round =>
              clear HBJ HGL
              obtain ⟨k, A3, c3, hk, rfl, rfl, HBJ, HOW, HGL⟩ := hrel
              by_cases hlt : k < n
              · have hlti : ((k : Nat) : Int) < ((n : Nat) : Int) := by omega
                have hkl : k < l.length := by rw [HLN.out]; exact hlt
                obtain ⟨b, off, rfl, hb, hcl⟩ := (HR0.out.below (Below.trans HGW.out (Below.mono HGL.out (Nat.le_of_lt hrbo)))) (by omega)
                obtain ⟨hc1, hc2⟩ := hcl k hkl
                have hin := in_at HIN.out k
                have HMS := Lib.hid (dec_step hkl)
                have HLT : Hid ((l.take k).length = k) := Lib.hid (by rw [List.length_take, HLN.out]; omega)
                clear hcl hkl hb
                generalize l.getD k (0, 0) = x at *
                obtain ⟨x1, x2⟩ := x
                dsimp only at hc1 hc2 hin
                have HC2 := Lib.hid (fun W => rwhole_any x1 x2 W hin.1 hin.2)
                clear hin
                generalize wholeD x1 x2 = vw at *
                obtain ⟨v, β⟩ := vw
                dsimp only at HC2
                generalize l.take k = xs at *
                go_wp2_with fail
                refine (HC2.out _).mono ?_
                rintro e w7 ⟨rfl, hg7⟩
                have HOB := Lib.hid (Nat.le_of_lt HBJ.out.lt)
                have HB7 := Lib.hid (HBJ.out.grow hg7)
                have HL7 := Lib.hid (Below.trans HGL.out (Below.mono hg7 HOB.out))
                have HO7 := Lib.hid (HOW.out.grow hg7)
                have d0 := HB7.out.at0
                have d3 := HB7.out.at3
                have p1 := (hg7.cell (p := ⟨b, off + k * 2, none⟩) (block_lt_of_cell hc1)).trans hc1
                have p2 := (hg7.cell (p := ⟨b, off + k * 2 + 1, none⟩) (block_lt_of_cell hc2)).trans hc2
                clear hg7 HC2 HBJ HGL HOW hc1 hc2
                go_upto_region 23 with fail
                clear d0
                have hg8 := grow_new w7 (.cells #[.int .i64 x1, .int .i64 x2] 42)
                have HO8 := Lib.hid (HO7.out.grow hg8)
                have HB8 := Lib.hid (HB7.out.grow hg8)
                have HD8 := Lib.hid (decs_lit1 w7 x1 x2)
                have HZ8 : Hid (ob + 1 ≤ (w7.alloc (.cells #[.int .i64 x1, .int .i64 x2] 42)).heap.size) := Lib.hid HB8.out.lt
                have HL8 := Lib.hid (Below.trans HL7.out (Below.mono hg8 (Nat.le_of_lt HB7.out.lt)))
                have d8 := HB8.out.at3
                clear hg8
                go_region_law (refine step_more_decs rfl (.tmp 90) (.tmp 95) rfl (ob + 1) (.slice A3 k c3) xs (some ⟨w7.heap.size, 0, none⟩) 1 1 [(x1, x2)] (by simp [Act.eval, Act.put]) HO8.out (by simp [Act.eval, Act.put]) rfl HD8.out (by rw [HLT.out]; omega) HZ8.out ?_; intro v9 w9 HO9 HG9 HA9; obtain ⟨A9, c9, e9, hc9, hN9⟩ := HO9.out.new; rw [List.length_append, HLT.out, List.length_singleton] at e9; subst e9; have HB9 := Lib.hid (BoxN.same HB8.out (HG9.out.block ob (Nat.lt_succ_self ob))); have f3 := HB9.out.froz 3; have d9 := HB9.out.at3; have HL9 : Hid (Below ob w4 w9) := Lib.hid (Below.trans HL8.out (Below.mono (show Below (ob + 1) (w7.alloc (.cells #[.int .i64 x1, .int .i64 x2] 42)) w9 from ⟨HG9.out.os, HG9.out.tape, HG9.out.output, HG9.out.size, HG9.out.block⟩) (Nat.le_succ ob))); clear HG9 HA9 hN9)
                all_goals
                  go_wp2
                  go_roundg (n - (k + 1))
                  case rel =>
                    exact ⟨k + 1, A9, c9, by omega, rfl, by go_num, Lib.hid (HB9.out.decsS A9 (k + 1) c9), Lib.hid (by rw [HMS.out]; exact own_putD HO9.out _ _), Lib.hid (below_put HL9.out (Nat.le_refl ob) 3 _)⟩
                  case measure => omega
              · obtain rfl : n = k := by omega
                have hnn : ¬ ((n : Nat) : Int) < ((n : Nat) : Int) := by omega
                rw [HTA.out] at HOW
                have HOX := HBJ
                obtain ⟨A9, c9, hv9, _, hN9⟩ := HOW.out.new
                have ea : A3 = A9 := by rw [HLN.out] at hv9; exact (Value.slice.inj hv9).1
                rw [← ea] at hN9
                clear ea hv9
                have HBQ : Hid (BoxN wr rb 0 none 0 0 none 0 0 none 0 0) := Lib.hid ((HGL.out.block rb hrbo).trans HBR.out)
                have HGQ : Hid (Grow w wr) := Lib.hid (show Below w.heap.size w wr by rw [HRB.out]; exact Below.trans HGW.out (Below.mono HGL.out (Nat.le_of_lt hrbo)))
                have hox := HOX.out
                have e0 := hox.at0
                have e1 := hox.at1
                have e2 := hox.at2
                have e3 := hox.at3
                clear hox
                have hbx := HBQ.out
                have f0 := hbx.froz 0
                have f1 := hbx.froz 1
                have f2 := hbx.froz 2
                have f3 := hbx.froz 3
                have d0 := hbx.at0
                have d1 := hbx.at1
                have d2 := hbx.at2
                have d3 := hbx.at3
                clear hbx
                go_wp2
                have hle : w.heap.size ≤ rb := by rw [HRB.out]; exact Nat.le_refl _
                have hb := HBQ.out.store 4 As none A3 n1 cA 0 0 n c3
                have hg := (((HGQ.out.put hle 0 (.int .i64 4)).put hle 1 (.slice As n1 cA)).put hle 2 (.slice none 0 0)).put hle 3 (.slice A3 n c3)
                have hkp : ∀ b, rb < b → b < wr.heap.size → ((((wr.setCell ⟨rb, 0, none⟩ (.int .i64 4)).setCell ⟨rb, 1, none⟩ (.slice As n1 cA)).setCell ⟨rb, 2, none⟩ (.slice none 0 0)).setCell ⟨rb, 3, none⟩ (.slice A3 n c3)).heap[b]? = wr.heap[b]? := fun b h1 h2 => (kept_store (w := wr) (b := rb) _ _ _ _).block b h2 (by show ¬ b = rb; omega)
                refine bodyPost_ret (v := .tuple #[.agg #[.int .i64 4, .slice As n1 cA, .slice none 0 0, .slice A3 n c3], .bool true]) (by simp [results, Try.results14, go_sem, hb.at0, hb.at1, hb.at2, hb.at3]) rfl ?_
                have hns : NumsT (fun b => rb < b ∧ b < ob) wr As s := HNS.out.keep fun b hb => ⟨hb, HGL.out.block b hb.2⟩
                exact OneP.yes HM.out hg ⟨As, cA, none, 0, A3, c3, by rw [← HSL.out, ← HLN.out]; rfl, hns.keep fun b hb2 => ⟨by first | omega | (rw [HRB.out]; omega), hkp b hb2.1 (Nat.lt_trans hb2.2 HOX.out.lt)⟩, NumsT.nil_, hN9.keep fun b hb2 => ⟨by first | omega | (rw [HRB.out]; omega), hkp b (by omega) hb2.2⟩⟩
          · have hk4' : (K == 4) = false := by simpa using hk4
            have HM : Hid (numO s l = some ⟨K, s, l.map whlV, []⟩) := Lib.hid (by rw [HNM.out, HKL.out.2.2 (by rw [← HKK.out]; exact hk4), ← HKK.out])
            have HKI : Hid (K = 1 ∨ K = 2 ∨ K = 4) := Lib.hid hK
            clear HNM HKK hK hk4
            go_wp2
            go_loopg [13] n (fun g s13 wr => ∃ (k : Nat) (A2 : Option Addr) (c2 : Nat), k ≤ n ∧ g = n - k ∧ s13 = .int .i64 k ∧ Hid (BoxN wr ob K As n1 cA A2 k c2 none 0 0) ∧ Hid (OwnI (ob + 1) (.slice A2 k c2) ((l.take k).map whlV) wr) ∧ Hid (Below ob w4 wr))
            case atStart => exact ⟨0, none, 0, Nat.zero_le _, rfl, rfl, HBJ, Lib.hid (ownI_nil _ _), HGL⟩
            case round =>
              clear HBJ HGL
              obtain ⟨k, A2, c2, hk, rfl, rfl, HBJ, HOW, HGL⟩ := hrel
              by_cases hlt : k < n
              · have hlti : ((k : Nat) : Int) < ((n : Nat) : Int) := by omega
                have hkl : k < l.length := by rw [HLN.out]; exact hlt
                obtain ⟨b, off, rfl, hb, hcl⟩ := (HR0.out.below (Below.trans HGW.out (Below.mono HGL.out (Nat.le_of_lt hrbo)))) (by omega)
                obtain ⟨hc1, hc2⟩ := hcl k hkl
                have hin := in_at HIN.out k
                have HMS := Lib.hid (whl_step hkl)
                have HLT : Hid (((l.take k).map whlV).length = k) := Lib.hid (by rw [List.length_map, List.length_take, HLN.out]; omega)
                clear hcl hkl hb
                generalize l.getD k (0, 0) = x at *
                obtain ⟨x1, x2⟩ := x
                dsimp only at hc1 hc2 hin
                have HC2 := Lib.hid (fun W => rwhole_any x1 x2 W hin.1 hin.2)
                have hwv : whlV (x1, x2) = (wholeD x1 x2).1 := rfl
                rw [hwv] at HMS
                clear hwv hin
                generalize wholeD x1 x2 = vw at *
                obtain ⟨v, β⟩ := vw
                dsimp only at HC2 HMS
                generalize (l.take k).map whlV = xs at *
                go_wp2_with fail
                refine (HC2.out _).mono ?_
                rintro e w7 ⟨rfl, hg7⟩
                have HOB := Lib.hid (Nat.le_of_lt HBJ.out.lt)
                have HB7 := Lib.hid (HBJ.out.grow hg7)
                have HL7 := Lib.hid (Below.trans HGL.out (Below.mono hg7 HOB.out))
                have HO7 := Lib.hid (HOW.out.grow hg7)
                have d0 := HB7.out.at0
                have d2 := HB7.out.at2
                have hg8 := grow_new w7 (.cells #[.int .i64 v] 3)
                have HO8 := Lib.hid (HO7.out.grow hg8)
                have HB8 := Lib.hid (HB7.out.grow hg8)
                have HV8 := Lib.hid (nums_lit1 w7 v)
                have HZ8 : Hid (ob + 1 ≤ (w7.alloc (.cells #[.int .i64 v] 3)).heap.size) := Lib.hid HB8.out.lt
                have HL8 := Lib.hid (Below.trans HL7.out (Below.mono hg8 (Nat.le_of_lt HB7.out.lt)))
                clear hg7 hg8 HC2 HBJ HGL HOW HO7 HL7 hc1 hc2
                go_wp2_with (at_builtin; refine wpList_more_ints rfl _ _ rfl (ob + 1) (.slice A2 k c2) xs (some ⟨w7.heap.size, 0, none⟩) 1 1 [v] rfl HO8.out rfl rfl HV8.out (by rw [HLT.out]; omega) HZ8.out ?_; intro v9 w9 HO9 HG9 HA9; obtain ⟨A9, c9, e9, hc9, hN9⟩ := HO9.out.new; rw [List.length_append, HLT.out, List.length_singleton] at e9; subst e9; have HB9 := Lib.hid (BoxN.same HB8.out (HG9.out.block ob (Nat.lt_succ_self ob))); have f2 := HB9.out.froz 2; have d9 := HB9.out.at2)
                go_roundg (n - (k + 1))
                case rel =>
                  exact ⟨k + 1, A9, c9, by omega, rfl, by go_num, Lib.hid (HB9.out.intsS A9 (k + 1) c9), Lib.hid (by rw [HMS.out]; exact own_put HO9.out _ _), Lib.hid (below_put (Below.trans HL8.out (Below.mono HG9.out (Nat.le_succ ob))) (Nat.le_refl ob) 2 _)⟩
                case measure => omega
              · obtain rfl : n = k := by omega
                have hnn : ¬ ((n : Nat) : Int) < ((n : Nat) : Int) := by omega
                rw [HTA.out] at HOW
                have HOX := HBJ
                have HMW : Hid ((l.map whlV).length = n) := Lib.hid (by rw [List.length_map, HLN.out])
                obtain ⟨A9, c9, hv9, _, hN9⟩ := HOW.out.new
                have ea : A2 = A9 := by rw [HMW.out] at hv9; exact (Value.slice.inj hv9).1
                rw [← ea] at hN9
                clear ea hv9
                have HBQ : Hid (BoxN wr rb 0 none 0 0 none 0 0 none 0 0) := Lib.hid ((HGL.out.block rb hrbo).trans HBR.out)
                have HGQ : Hid (Grow w wr) := Lib.hid (show Below w.heap.size w wr by rw [HRB.out]; exact Below.trans HGW.out (Below.mono HGL.out (Nat.le_of_lt hrbo)))
                have hox := HOX.out
                have e0 := hox.at0
                have e1 := hox.at1
                have e2 := hox.at2
                have e3 := hox.at3
                clear hox
                have hbx := HBQ.out
                have f0 := hbx.froz 0
                have f1 := hbx.froz 1
                have f2 := hbx.froz 2
                have f3 := hbx.froz 3
                have d0 := hbx.at0
                have d1 := hbx.at1
                have d2 := hbx.at2
                have d3 := hbx.at3
                clear hbx
                go_wp2
                have hle : w.heap.size ≤ rb := by rw [HRB.out]; exact Nat.le_refl _
                have hb := HBQ.out.store K As A2 none n1 cA n c2 0 0
                have hg := (((HGQ.out.put hle 0 (.int .i64 K)).put hle 1 (.slice As n1 cA)).put hle 2 (.slice A2 n c2)).put hle 3 (.slice none 0 0)
                have hkp : ∀ b, rb < b → b < wr.heap.size → ((((wr.setCell ⟨rb, 0, none⟩ (.int .i64 K)).setCell ⟨rb, 1, none⟩ (.slice As n1 cA)).setCell ⟨rb, 2, none⟩ (.slice A2 n c2)).setCell ⟨rb, 3, none⟩ (.slice none 0 0)).heap[b]? = wr.heap[b]? := fun b h1 h2 => (kept_store (w := wr) (b := rb) _ _ _ _).block b h2 (by show ¬ b = rb; omega)
                refine bodyPost_ret (v := .tuple #[.agg #[.int .i64 K, .slice As n1 cA, .slice A2 n c2, .slice none 0 0], .bool true]) (by simp [results, Try.results14, go_sem, hb.at0, hb.at1, hb.at2, hb.at3]) rfl ?_
                have hns : NumsT (fun b => rb < b ∧ b < ob) wr As s := HNS.out.keep fun b hb => ⟨hb, HGL.out.block b hb.2⟩
                exact OneP.yes HM.out hg ⟨As, cA, A2, c2, none, 0, by rw [← HSL.out, ← HMW.out]; rfl, hns.keep fun b hb2 => ⟨by first | omega | (rw [HRB.out]; omega), hkp b hb2.1 (Nat.lt_trans hb2.2 HOX.out.lt)⟩, hN9.keep fun b hb2 => ⟨by first | omega | (rw [HRB.out]; omega), hkp b (by omega) hb2.2⟩, DecsT.nil_⟩
end Go.Proofs.Ytcljpcbgokgcdaa
