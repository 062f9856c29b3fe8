/-
  ShapeRows comes to true, whatever it is called with.
-/
import Derived.Test.YtbediaeaodjnmaaSmall
import Derived.Test.YtbediaeaodjnmaaOwn
namespace Go.Proofs.Ytbediaeaodjnmaa
open Go.RowKit Go.Lib
set_option linter.unusedVariables false
set_option linter.unusedSimpArgs false

theorem in_app {M J : Nat} (hJ : J < M) : ∀ {X Y : List Nat}, InN X Y → InN (X ++ [M]) (Y ++ [J])
  | [], [], _ => ⟨hJ, trivial⟩
  | _ :: _, _ :: _, h => ⟨h.1, in_app hJ h.2⟩
theorem hor_app (M J : Nat) : ∀ {X Y : List Nat} (q : Nat), InN X Y → hor q (X ++ [M]) (Y ++ [J]) = hor q X Y * M + J
  | [], [], _, _ => rfl
  | x :: X, y :: Y, q, h => hor_app M J (q * x + y) h.2
theorem ofN_app (a b : List Nat) : ofN (a ++ b) = ofN a ++ ofN b := by simp [ofN]
theorem rows_math {xs ys : List Int} {M J : Nat} (ha : plcB xs ys = true) (hb : rightB (xs ++ [((M : Nat) : Int)]) = true) (hJ : J < M) :
    (plcB (xs ++ [((M : Nat) : Int)]) (ys ++ [((J : Nat) : Int)]) = true ∧ plc (xs ++ [((M : Nat) : Int)]) (ys ++ [((J : Nat) : Int)]) = M * plc xs ys + J) ∧
    (plcB (((M : Nat) : Int) :: xs) (((J : Nat) : Int) :: ys) = true ∧ plc (((M : Nat) : Int) :: xs) (((J : Nat) : Int) :: ys) = J * cnt xs + plc xs ys) ∧
    rightB xs = true ∧ M * plc xs ys + J ≤ 1048576 ∧ J * cnt xs + plc xs ys ≤ 1048576 ∧ xs.length ≤ 16 ∧ ys.length = xs.length := by
  have hp : plc xs ys = hor 0 (toN xs) (toN ys) := by unfold plc; rw [if_pos ha]
  have ha' := ha
  simp only [plcB, Bool.and_eq_true] at ha
  obtain ⟨hr, hi⟩ := ha
  obtain ⟨e1, e2, e3⟩ := in_of hi
  have hall := (right_iff.1 hr).2.1
  have hx := ofN_toN hall
  obtain ⟨b1, b2, b3⟩ := right_iff.1 hb
  have hX : toN (xs ++ [((M : Nat) : Int)]) = toN xs ++ [M] := by simp [toN]
  have hY : toN (ys ++ [((J : Nat) : Int)]) = toN ys ++ [J] := by simp [toN]
  have hX' : toN (((M : Nat) : Int) :: xs) = M :: toN xs := by simp [toN]
  have hY' : toN (((J : Nat) : Int) :: ys) = J :: toN ys := by simp [toN]
  have i1 := in_app hJ e2
  have i2 : InN (M :: toN xs) (J :: toN ys) := ⟨hJ, e2⟩
  have c1 : inB (xs ++ [((M : Nat) : Int)]) (ys ++ [((J : Nat) : Int)]) = true := by
    have := in_to i1
    rw [ofN_app, ofN_app, hx, e1] at this
    exact this
  have c2 : inB (((M : Nat) : Int) :: xs) (((J : Nat) : Int) :: ys) = true := by
    have := in_to i2
    have f1 : ofN (M :: toN xs) = ((M : Nat) : Int) :: xs := by
      show ((M : Nat) : Int) :: ofN (toN xs) = _
      rw [hx]
    have f2 : ofN (J :: toN ys) = ((J : Nat) : Int) :: ys := by
      show ((J : Nat) : Int) :: ofN (toN ys) = _
      rw [e1]
    rw [f1, f2] at this
    exact this
  have hr2 : rightB (((M : Nat) : Int) :: xs) = true := by
    refine right_iff.2 ⟨by simpa using b1, ?_, ?_⟩
    · rw [List.all_append] at b2
      simp only [List.all_cons, List.all_nil, Bool.and_true, Bool.and_eq_true] at b2 ⊢
      exact ⟨b2.2, b2.1⟩
    · rw [hX', prodN, Nat.mul_comm]
      rw [hX, prod_app, prodN, prodN, Nat.mul_one] at b3
      exact b3
  have p1 : plcB (xs ++ [((M : Nat) : Int)]) (ys ++ [((J : Nat) : Int)]) = true := by simp [plcB, hb, c1]
  have p2 : plcB (((M : Nat) : Int) :: xs) (((J : Nat) : Int) :: ys) = true := by simp [plcB, hr2, c2]
  have q1 : plc (xs ++ [((M : Nat) : Int)]) (ys ++ [((J : Nat) : Int)]) = M * plc xs ys + J := by
    unfold plc
    rw [if_pos p1, if_pos ha', hX, hY, hor_app M J 0 e2, Nat.mul_comm]
  have q2 : plc (((M : Nat) : Int) :: xs) (((J : Nat) : Int) :: ys) = J * cnt xs + plc xs ys := by
    have f : plc (((M : Nat) : Int) :: xs) (((J : Nat) : Int) :: ys) = hor 0 (M :: toN xs) (J :: toN ys) := by
      unfold plc
      rw [if_pos p2, hX', hY']
    have g : hor 0 (M :: toN xs) (J :: toN ys) = hor (0 * M + J) (toN xs) (toN ys) := rfl
    rw [f, g, (hor_step _ _ _ e2).1, cnt_yes hr, hp, Nat.zero_mul, Nat.zero_add]
  refine ⟨⟨p1, q1⟩, ⟨p2, q2⟩, hr, ?_, ?_, (right_iff.1 hr).1, e3⟩
  · rw [← q1]
    unfold plc
    rw [if_pos p1, hX, hY]
    have := (hor_step 0 _ _ i1).2
    rw [hX] at b3
    omega
  · rw [← q2]
    unfold plc
    rw [if_pos p2, hX', hY']
    have := (hor_step 0 _ _ i2).2
    have b4 := (right_iff.1 hr2).2.2
    rw [hX'] at b4
    omega

set_option maxRecDepth 10000 in
set_option maxHeartbeats 6400000 in
theorem lrows_walk (A A' : Option Addr) (n c n' c' : Nat) (xs ys : List Int) (N i : Int) (w : World) (hn : xs.length = n) (hn' : ys.length = n') (hm' : n' ≤ 9223372036854775807) (hr : Nums .i64 w w.heap.size A xs) (hr' : Nums .i64 w w.heap.size A' ys)
    (hcA : A = none → c = 0) (hcA' : A' = none → c' = 0) (hsz : n * 8 ≤ 140737488351232) :
    Calls Try.prog 5 #[.slice A n c, .slice A' n' c', .int .i64 N, .int .i64 i] w (Fine w) := by
  have HR := Lib.hid hr
  have HR' := Lib.hid hr'
  have HN := Lib.hid hn
  have HN' := Lib.hid hn'
  have HCA := Lib.hid hcA
  have HCA' := Lib.hid hcA'
  clear hr hr' hn hn' hcA hcA'
  have HL0 : Hid ((([] : List Int).length + n) * 8 ≤ 140737488355328) := Lib.hid (by simp; omega)
  have HL1 : Hid ((([] ++ xs : List Int).length + 1) * 8 ≤ 140737488355328) := Lib.hid (by rw [List.nil_append, HN.out]; omega)
  have HLT : Hid (([] ++ xs ++ [N]).length = n + 1) := Lib.hid (by simp [HN.out])
  have H3 := Lib.hid (fun W h h' => place_any A A' n c n' c' xs ys W HN.out (by omega) HN'.out hm' h h')
  have H4 := Lib.hid (fun W B c2 h => count_any B (n + 1) c2 (xs ++ [N]) W (by simp [HN.out]) (by omega) h)
  have HRM := Lib.hid (fun M J => @rows_math xs ys M J)
  generalize hP : plc xs ys = P at H3 HRM
  generalize hγ : plcB xs ys = γ at H3 HRM
  generalize cnt (xs ++ [N]) = D at H4
  generalize hβ : rightB (xs ++ [N]) = β at H4
  have HBN := Lib.hid hβ
  clear hP hγ hβ
  go_enter Try.func5, Try.ntmps5
  go_wp2_with fail
  refine (small_any w).mono ?_
  rintro x w1 ⟨rfl, hg⟩
  have HG1 := Lib.hid hg
  have HR1 := Lib.hid (HR.out.grow hg)
  have HR1' := Lib.hid (HR'.out.grow hg)
  clear hg HR HR'
  have HE1 := Lib.hid (ownI_lit w1 [] (by decide))
  go_wp2_with (first
    | (at_builtin; refine wpList_append_ints rfl _ _ rfl w1.heap.size _ n c [] xs _ rfl HE1.out rfl HN.out HCA.out (HR1.out.grow (grow_new _ _)) HL0.out (grow_new _ _).size ?_; intro v2 w2 hown2 hb2)
    | (at_builtin; refine wpList_append_ints rfl _ _ rfl w1.heap.size v2 1 1 ([] ++ xs) [N] _ rfl (hown2.grow (grow_new _ _)) rfl rfl (by simp) (nums_lit w2 [N]) HL1.out (Nat.le_trans (Nat.le_trans (grow_new _ _).size hb2.size) (grow_new _ _).size) ?_; intro v3 w3 hown3 hb3; obtain ⟨A3, c3, e3, hS3⟩ := hown3.nums; rw [HLT.out] at e3; subst e3))
  have HG3 := Lib.hid (show Grow w1 w3 from Below.trans (Below.trans (grow_new _ _) hb2) (Below.trans (Below.mono (grow_new _ _) (Nat.le_trans (grow_new _ _).size hb2.size)) hb3))
  rw [List.nil_append] at hS3
  have HS3 := Lib.hid hS3
  clear hS3 hown3 hb3 hown2 hb2 HE1 HL0 HL1 HLT
  have HR3 := Lib.hid (HR1.out.grow HG3.out)
  have HR3' := Lib.hid (HR1'.out.grow HG3.out)
  refine (H3.out w3 HR3.out HR3'.out).mono ?_
  rintro e w4 ⟨rfl, hg⟩
  have HG4 := Lib.hid (HG3.out.trans hg)
  have HT4 := Lib.hid (HS3.out.grow hg)
  clear hg H3 HR3 HR3' HS3 HG3
  go_wp2_with fail
  refine (H4.out w4 A3 c3 HT4.out).mono ?_
  rintro e w5 ⟨rfl, rfl⟩
  have HGE := Lib.hid (HG1.out.trans HG4.out)
  clear H4
  by_cases h50 : 50 < n
  · have h50i : (50 : Int) < ((n : Nat) : Int) := by omega
    go_wp2
    go_ret
    exact ⟨rfl, HGE.out⟩
  have h50i : ¬ (50 : Int) < ((n : Nat) : Int) := by omega
  cases γ with
  | false =>
    go_wp2
    go_ret
    exact ⟨rfl, HGE.out⟩
  | true =>
  cases β with
  | false =>
    go_wp2
    go_ret
    exact ⟨rfl, HGE.out⟩
  | true =>
  by_cases h0 : i < 0
  · go_wp2
    go_ret
    exact ⟨rfl, HGE.out⟩
  by_cases h1 : N ≤ i
  · go_wp2
    go_ret
    exact ⟨rfl, HGE.out⟩
  obtain ⟨J, rfl⟩ : ∃ J : Nat, i = (J : Nat) := ⟨i.toNat, by omega⟩
  obtain ⟨M, rfl⟩ : ∃ M : Nat, N = (M : Nat) := ⟨N.toNat, by omega⟩
  obtain ⟨⟨pb1, pv1⟩, ⟨pb2, pv2⟩, hrx, bq, bv, hx16, hyx⟩ := HRM.out M J rfl HBN.out (by omega)
  rw [HN.out] at hx16 hyx
  rw [HN'.out] at hyx
  subst hyx
  have HPA := Lib.hid (fun B c1 B' c2 W h h' => place_says (A := B) (A' := B') (c := c1) (c' := c2) (n := n' + 1) (n' := n' + 1) ⟨pv1, pb1⟩ W (by simp [HN.out]) (by omega) (by simp [HN'.out]) (by omega) h h')
  have HPB := Lib.hid (fun B c1 B' c2 W h h' => place_says (A := B) (A' := B') (c := c1) (c' := c2) (n := n' + 1) (n' := n' + 1) ⟨pv2, pb2⟩ W (by simp [HN.out]) (by omega) (by simp [HN'.out]) (by omega) h h')
  have HCN := Lib.hid (fun W h => count_says (A := A) (c := c) (xs := xs) ⟨rfl, hrx⟩ W HN.out (by omega) h)
  clear pb1 pv1 pb2 pv2 hrx HRM HBN
  generalize cnt xs = C at HPB HCN bv
  have hmq : ((M : Nat) : Int) * ((P : Nat) : Int) = ((M * P : Nat) : Int) := by simp
  have hmv : ((J : Nat) : Int) * ((C : Nat) : Int) = ((J * C : Nat) : Int) := by simp
  obtain ⟨r, hr⟩ : ∃ r, M * P = r := ⟨_, rfl⟩
  obtain ⟨s, hs⟩ : ∃ s, J * C = s := ⟨_, rfl⟩
  rw [hr] at hmq bq HPA
  rw [hs] at hmv bv HPB
  have hw1 : IntKind.i64.wrap (((M : Nat) : Int) * ((P : Nat) : Int)) = ((r : Nat) : Int) := by rw [hmq, IntKind.wrap_i64]; omega
  have hw2 : IntKind.i64.wrap (((J : Nat) : Int) * ((C : Nat) : Int)) = ((s : Nat) : Int) := by rw [hmv, IntKind.wrap_i64]; omega
  have hw3 : IntKind.i64.wrap (((r : Nat) : Int) + ((J : Nat) : Int)) = ((r + J : Nat) : Int) := by rw [IntKind.wrap_i64]; omega
  have hw4 : IntKind.i64.wrap (((s : Nat) : Int) + ((P : Nat) : Int)) = ((s + P : Nat) : Int) := by rw [IntKind.wrap_i64]; omega
  have he1 : (((r + J : Nat) : Int) == ((r + J : Nat) : Int)) = true := by simp
  have he2 : (((s + P : Nat) : Int) == ((s + P : Nat) : Int)) = true := by simp
  clear hmq hmv hr hs
  have HRA := Lib.hid (HR1.out.grow HG4.out)
  have HRA' := Lib.hid (HR1'.out.grow HG4.out)
  have HE5 := Lib.hid (ownI_lit w5 [] (by decide))
  have HL5 : Hid ((([] : List Int).length + n') * 8 ≤ 140737488355328) := Lib.hid (by simp; omega)
  have HL6 : Hid ((([] ++ ys : List Int).length + 1) * 8 ≤ 140737488355328) := Lib.hid (by rw [List.nil_append, HN'.out]; omega)
  have HLT5 : Hid (([] ++ ys ++ [((J : Nat) : Int)]).length = n' + 1) := Lib.hid (by simp [HN'.out])
  go_wp2_with (first
    | (at_builtin; refine wpList_append_ints rfl _ _ rfl w5.heap.size _ n' c' [] ys _ rfl HE5.out rfl HN'.out HCA'.out (HRA'.out.grow (grow_new _ _)) HL5.out (grow_new _ _).size ?_; intro v6 w6 hown6 hb6)
    | (at_builtin; refine wpList_append_ints rfl _ _ rfl w5.heap.size v6 1 1 ([] ++ ys) [((J : Nat) : Int)] _ rfl (hown6.grow (grow_new _ _)) rfl rfl (by simp) (nums_lit w6 [((J : Nat) : Int)]) HL6.out (Nat.le_trans (Nat.le_trans (grow_new _ _).size hb6.size) (grow_new _ _).size) ?_; intro v7 w7 hown7 hb7; obtain ⟨A7, c7, e7, hS7⟩ := hown7.nums; rw [HLT5.out] at e7; subst e7))
  have HG7 := Lib.hid (show Grow w5 w7 from Below.trans (Below.trans (grow_new _ _) hb6) (Below.trans (Below.mono (grow_new _ _) (Nat.le_trans (grow_new _ _).size hb6.size)) hb7))
  rw [List.nil_append] at hS7
  have HS7 := Lib.hid hS7
  clear hS7 hown7 hb7 hown6 hb6 HE5 HL5 HL6 HLT5
  refine (HPA.out A3 c3 A7 c7 w7 (HT4.out.grow HG7.out) HS7.out).mono ?_
  rintro e w8 ⟨rfl, hg⟩
  have HG8 := Lib.hid (HG7.out.trans hg)
  clear hg HPA HS7 HG7
  have HE8 := Lib.hid (ownI_lit w8 [((M : Nat) : Int)] (by simp))
  have HL8 : Hid ((([((M : Nat) : Int)] : List Int).length + n') * 8 ≤ 140737488355328) := Lib.hid (by simp; omega)
  have HLT8 : Hid (([((M : Nat) : Int)] ++ xs).length = n' + 1) := Lib.hid (by simp [HN.out])
  have HRB := Lib.hid (HRA.out.grow HG8.out)
  have HRB' := Lib.hid (HRA'.out.grow HG8.out)
  have HL9 : Hid ((([((J : Nat) : Int)] : List Int).length + n') * 8 ≤ 140737488355328) := Lib.hid (by simp; omega)
  have HLT9 : Hid (([((J : Nat) : Int)] ++ ys).length = n' + 1) := Lib.hid (by simp [HN'.out])
  go_wp2_with (first
    | (at_builtin; refine wpList_append_ints rfl _ _ rfl w8.heap.size _ n' c [((M : Nat) : Int)] xs _ rfl HE8.out rfl HN.out HCA.out (HRB.out.grow (grow_new _ _)) HL8.out (grow_new _ _).size ?_; intro v9 w9 hown9 hb9; obtain ⟨A9, c9, e9, hS9⟩ := hown9.nums; rw [HLT8.out] at e9; subst e9; have HG9 := Lib.hid (show Grow w8 w9 from Below.trans (grow_new _ _) hb9))
    | (at_builtin; refine wpList_append_ints rfl _ _ rfl w9.heap.size _ n' c' [((J : Nat) : Int)] ys _ rfl (ownI_lit w9 [((J : Nat) : Int)] (by simp)) rfl HN'.out HCA'.out ((HRB'.out.grow HG9.out).grow (grow_new _ _)) HL9.out (grow_new _ _).size ?_; intro v10 w10 hown10 hb10; obtain ⟨A10, c10, e10, hS10⟩ := hown10.nums; rw [HLT9.out] at e10; subst e10))
  have HG10 := Lib.hid (show Grow w9 w10 from Below.trans (grow_new _ _) hb10)
  have HS9 := Lib.hid (hS9.grow HG10.out)
  have HS10 := Lib.hid hS10
  clear hS10 hown10 hb10 hS9 hown9 hb9 HE8
  refine (HPB.out A9 c9 A10 c10 w10 HS9.out HS10.out).mono ?_
  rintro e w11 ⟨rfl, hg⟩
  have HG11 := Lib.hid (HG9.out.trans (HG10.out.trans hg))
  clear hg HPB HS9 HS10 HG9 HG10
  go_wp2_with fail
  refine (HCN.out w11 (HRB.out.grow HG11.out)).mono ?_
  rintro e w12 ⟨rfl, rfl⟩
  have HG12 := Lib.hid (HGE.out.trans (HG8.out.trans HG11.out))
  clear HCN
  go_wp2
  go_ret
  exact ⟨rfl, HG12.out⟩
end Go.Proofs.Ytbediaeaodjnmaa
