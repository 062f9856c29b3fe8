/-
  What slices.ContainsFunc with the two closures, function.head, Right and Name come to. Nothing is claimed here by itself.
-/
import Derived.Test.YtcnijmmpkahoaaaDoorLabelsP
namespace Go.Proofs.YtcnijmmpkahoaaaDoor
open Go.RowKit Go.Lib
set_option linter.unusedSimpArgs false
set_option linter.unusedVariables false
set_option maxRecDepth 10000

theorem ask_line (x : List UInt8) (w : World) (hx : x.length ≤ 1100000) : Calls Tryd.prog 59 #[.string ⟨x.toArray⟩] w (Says (!lineD x) w) := by
  have HC := Lib.hid (line_any x w (by omega))
  generalize lineD x = v at HC ⊢
  cases v <;>
  · go_enter Tryd.func59, Tryd.ntmps59
    go_wp2_with fail
    refine (HC.out).mono ?_
    rintro e w2 ⟨rfl, hg⟩
    have HG := Lib.hid hg
    clear hg
    go_wp2
    go_ret
    exact ⟨rfl, HG.out⟩
theorem ask_label (x : List UInt8) (w : World) (hx : x.length ≤ 1100000) : Calls Tryd.prog 60 #[.string ⟨x.toArray⟩] w (Says (!rightD x) w) := by
  have HC := Lib.hid (right_any x w (by omega))
  generalize rightD x = v at HC ⊢
  cases v <;>
  · go_enter Tryd.func60, Tryd.ntmps60
    go_wp2_with fail
    refine (HC.out).mono ?_
    rintro e w2 ⟨rfl, hg⟩
    have HG := Lib.hid hg
    clear hg
    go_wp2
    go_ret
    exact ⟨rfl, HG.out⟩

set_option maxRecDepth 10000 in
set_option maxHeartbeats 800000 in
set_option maxRecDepth 10000 in
set_option maxHeartbeats 800000 in
theorem index_lines (p : List UInt8 → Bool) (A : Option Addr) (n c : Nat) (ls : List (List UInt8)) (w : World) (hn : ls.length = n) (hm : n ≤ 1100000) (hr : Strs w w.heap.size A ls) (hs : ∀ s ∈ ls, s.length ≤ 1100000)
    (ask : ∀ (x : List UInt8) W, x.length ≤ 1100000 → Grow w W → Calls Tryd.prog 59 #[.string ⟨x.toArray⟩] W (Says (!p x) W)) :
    Calls Tryd.prog 80 #[.slice A n c, .func (.func 59) #[] #[]] w (Finds p ls w) := by
  have HR := Lib.hid hr
  have HN := Lib.hid hn
  have HS := Lib.hid hs
  have HASK := Lib.hid ask
  clear hr hn hs ask
  go_enter Tryd.func80, Tryd.ntmps80
  go_wp2
  go_loopg [8] n (fun g s8 wr => ∃ k : Nat, k ≤ n ∧ g = n - k ∧ s8 = .int .i64 k ∧ Hid ((ls.drop k).all p = ls.all p) ∧ Hid (Grow w wr))
  case atStart => exact ⟨0, Nat.zero_le _, rfl, rfl, Lib.hid rfl, Lib.hid (Grow.refl _)⟩
  case round =>
    obtain ⟨k, hk, rfl, rfl, HA, HG⟩ := hrel
    by_cases hlt : k < n
    · have hkl : k < ls.length := by rw [HN.out]; exact hlt
      obtain ⟨b, off, rfl, hb, hcl⟩ := HR.out.grow HG.out (by omega)
      have hc := hcl k hkl
      have hx1 := getD_len HS.out k
      have HT := Lib.hid (fun h => all_dropL (p := p) hkl h)
      have HF := Lib.hid (fun h => all_failsL (p := p) hkl h)
      clear hcl hkl
      generalize ls.getD k [] = x at hc HT HF hx1
      have HB := Lib.hid (HASK.out x wr hx1 HG.out)
      cases hx : p x with
      | true =>
        have HT' := Lib.hid (HT.out hx)
        rw [hx] at HB
        clear hx HT HF
        go_wp2_with (go_at_call 59; refine (HB.out).mono ?_; rintro e w2 ⟨rfl, hg2⟩; have HG2 := Lib.hid hg2; clear hg2)
        go_roundg (n - (k + 1))
        case rel => exact ⟨k + 1, by omega, rfl, by go_num, Lib.hid (HT'.out.symm.trans HA.out), Lib.hid (HG.out.trans HG2.out)⟩
        case measure => omega
      | false =>
        have HF' := Lib.hid (HF.out hx)
        rw [hx] at HB
        clear hx HT HF
        go_wp2_with (go_at_call 59; refine (HB.out).mono ?_; rintro e w2 ⟨rfl, hg2⟩; have HG2 := Lib.hid hg2; clear hg2)
        go_ret
        refine ⟨_, rfl, ?_, HG.out.trans HG2.out⟩
        rw [← HA.out, HF'.out]
        simp
    · obtain rfl : n = k := by omega
      have HF := Lib.hid (show ls.all p = true by rw [← HA.out, List.drop_of_length_le (by rw [HN.out]; exact Nat.le_refl _)]; rfl)
      go_wp2
      go_ret
      refine ⟨_, rfl, ?_, HG.out⟩
      rw [HF.out]
      rfl

theorem cont_lines (p : List UInt8 → Bool) (A : Option Addr) (n c : Nat) (ls : List (List UInt8)) (w : World) (hn : ls.length = n) (hm : n ≤ 1100000) (hr : Strs w w.heap.size A ls) (hs : ∀ s ∈ ls, s.length ≤ 1100000)
    (ask : ∀ (x : List UInt8) W, x.length ≤ 1100000 → Grow w W → Calls Tryd.prog 59 #[.string ⟨x.toArray⟩] W (Says (!p x) W)) :
    Calls Tryd.prog 61 #[.slice A n c, .func (.func 59) #[] #[]] w (Says (!(ls.all p)) w) := by
  have HC := Lib.hid (index_lines p A n c ls w hn hm hr hs ask)
  clear hn hm hr hs ask
  go_enter Tryd.func61, Tryd.ntmps61
  go_wp2_with fail
  refine (HC.out).mono ?_
  rintro e w1 ⟨j, rfl, hj, hg⟩
  have HG := Lib.hid hg
  by_cases h : 0 ≤ j
  · have HV := Lib.hid (show (!(ls.all p)) = true by rw [← hj]; simp [h])
    clear hj hg
    go_wp2
    go_ret
    exact ⟨by rw [HV.out]; rfl, HG.out⟩
  · have HV := Lib.hid (show (!(ls.all p)) = false by rw [← hj]; simp [h])
    have hd : decide (0 ≤ j) = false := by simp [h]
    clear hj hg
    go_wp2
    go_ret
    exact ⟨by rw [HV.out]; rfl, HG.out⟩

set_option maxRecDepth 10000 in
set_option maxHeartbeats 800000 in
set_option maxRecDepth 10000 in
set_option maxHeartbeats 800000 in
theorem index_labs (p : List UInt8 → Bool) (A : Option Addr) (n c : Nat) (ls : List (List UInt8)) (w : World) (hn : ls.length = n) (hm : n ≤ 1100000) (hr : Strs w w.heap.size A ls) (hs : ∀ s ∈ ls, s.length ≤ 1100000)
    (ask : ∀ (x : List UInt8) W, x.length ≤ 1100000 → Grow w W → Calls Tryd.prog 60 #[.string ⟨x.toArray⟩] W (Says (!p x) W)) :
    Calls Tryd.prog 80 #[.slice A n c, .func (.func 60) #[] #[]] w (Finds p ls w) := by
  have HR := Lib.hid hr
  have HN := Lib.hid hn
  have HS := Lib.hid hs
  have HASK := Lib.hid ask
  clear hr hn hs ask
  go_enter Tryd.func80, Tryd.ntmps80
  go_wp2
  go_loopg [8] n (fun g s8 wr => ∃ k : Nat, k ≤ n ∧ g = n - k ∧ s8 = .int .i64 k ∧ Hid ((ls.drop k).all p = ls.all p) ∧ Hid (Grow w wr))
  case atStart => exact ⟨0, Nat.zero_le _, rfl, rfl, Lib.hid rfl, Lib.hid (Grow.refl _)⟩
  case round =>
    obtain ⟨k, hk, rfl, rfl, HA, HG⟩ := hrel
    by_cases hlt : k < n
    · have hkl : k < ls.length := by rw [HN.out]; exact hlt
      obtain ⟨b, off, rfl, hb, hcl⟩ := HR.out.grow HG.out (by omega)
      have hc := hcl k hkl
      have hx1 := getD_len HS.out k
      have HT := Lib.hid (fun h => all_dropL (p := p) hkl h)
      have HF := Lib.hid (fun h => all_failsL (p := p) hkl h)
      clear hcl hkl
      generalize ls.getD k [] = x at hc HT HF hx1
      have HB := Lib.hid (HASK.out x wr hx1 HG.out)
      cases hx : p x with
      | true =>
        have HT' := Lib.hid (HT.out hx)
        rw [hx] at HB
        clear hx HT HF
        go_wp2_with (go_at_call 60; refine (HB.out).mono ?_; rintro e w2 ⟨rfl, hg2⟩; have HG2 := Lib.hid hg2; clear hg2)
        go_roundg (n - (k + 1))
        case rel => exact ⟨k + 1, by omega, rfl, by go_num, Lib.hid (HT'.out.symm.trans HA.out), Lib.hid (HG.out.trans HG2.out)⟩
        case measure => omega
      | false =>
        have HF' := Lib.hid (HF.out hx)
        rw [hx] at HB
        clear hx HT HF
        go_wp2_with (go_at_call 60; refine (HB.out).mono ?_; rintro e w2 ⟨rfl, hg2⟩; have HG2 := Lib.hid hg2; clear hg2)
        go_ret
        refine ⟨_, rfl, ?_, HG.out.trans HG2.out⟩
        rw [← HA.out, HF'.out]
        simp
    · obtain rfl : n = k := by omega
      have HF := Lib.hid (show ls.all p = true by rw [← HA.out, List.drop_of_length_le (by rw [HN.out]; exact Nat.le_refl _)]; rfl)
      go_wp2
      go_ret
      refine ⟨_, rfl, ?_, HG.out⟩
      rw [HF.out]
      rfl

theorem cont_labs (p : List UInt8 → Bool) (A : Option Addr) (n c : Nat) (ls : List (List UInt8)) (w : World) (hn : ls.length = n) (hm : n ≤ 1100000) (hr : Strs w w.heap.size A ls) (hs : ∀ s ∈ ls, s.length ≤ 1100000)
    (ask : ∀ (x : List UInt8) W, x.length ≤ 1100000 → Grow w W → Calls Tryd.prog 60 #[.string ⟨x.toArray⟩] W (Says (!p x) W)) :
    Calls Tryd.prog 61 #[.slice A n c, .func (.func 60) #[] #[]] w (Says (!(ls.all p)) w) := by
  have HC := Lib.hid (index_labs p A n c ls w hn hm hr hs ask)
  clear hn hm hr hs ask
  go_enter Tryd.func61, Tryd.ntmps61
  go_wp2_with fail
  refine (HC.out).mono ?_
  rintro e w1 ⟨j, rfl, hj, hg⟩
  have HG := Lib.hid hg
  by_cases h : 0 ≤ j
  · have HV := Lib.hid (show (!(ls.all p)) = true by rw [← hj]; simp [h])
    clear hj hg
    go_wp2
    go_ret
    exact ⟨by rw [HV.out]; rfl, HG.out⟩
  · have HV := Lib.hid (show (!(ls.all p)) = false by rw [← hj]; simp [h])
    have hd : decide (0 ≤ j) = false := by simp [h]
    clear hj hg
    go_wp2
    go_ret
    exact ⟨by rw [HV.out]; rfl, HG.out⟩

theorem bad_lines {ls : List (List UInt8)} (h : ls = [] ∨ 1000 < ls.length ∨ ls.all lineD = false) : headL ls = none := by
  cases hx : headL ls with
  | none => rfl
  | some x =>
    obtain ⟨h1, h2, h3, _⟩ := headL_iff.1 hx
    rcases h with h | h | h
    · exact absurd h h1
    · omega
    · rw [h] at h3; cases h3
theorem bad_rest {ls : List (List UInt8)} {x : Hd} (hp : parseR (ls.getD 0 []) = some x) (h : (labelsD ls).all rightD = false ∨ unlB (allH x ++ labelsD ls) = false) : headL ls = none := by
  cases hx : headL ls with
  | none => rfl
  | some y =>
    obtain ⟨_, _, _, h4, h5, h6⟩ := headL_iff.1 hx
    rw [hp] at h4
    cases h4
    rcases h with h | h
    · rw [h] at h5; cases h5
    · rw [h] at h6; cases h6
theorem bad_parse {ls : List (List UInt8)} (hp : parseR (ls.getD 0 []) = none) : headL ls = none := by
  cases hx : headL ls with
  | none => rfl
  | some y =>
    obtain ⟨_, _, _, h4, _⟩ := headL_iff.1 hx
    rw [hp] at h4
    cases h4
theorem good_lines {ls : List (List UInt8)} {x : Hd} (h0 : ls ≠ []) (h1 : ls.length ≤ 1000) (h2 : ls.all lineD = true) (hp : parseR (ls.getD 0 []) = some x) (h3 : (labelsD ls).all rightD = true) (h4 : unlB (allH x ++ labelsD ls) = true) : headL ls = some x := headL_iff.2 ⟨h0, h1, h2, hp, h3, h4⟩
theorem rows2 (W : World) {A1 A2 : Option Addr} {l1 l2 c1 c2 : Nat} {k1 k2 : List (List UInt8)} (h1 : Strs W W.heap.size A1 k1) (h2 : Strs W W.heap.size A2 k2)
    (e1 : k1.length = l1) (e2 : k2.length = l2) (n1 : A1 = none → c1 = 0) (n2 : A2 = none → c2 = 0) :
    RowsAt (W.alloc (.cells #[.slice A1 l1 c1, .slice A2 l2 c2] 22)) (W.alloc (.cells #[.slice A1 l1 c1, .slice A2 l2 c2] 22)).heap.size (some ⟨W.heap.size, 0, none⟩) [k1, k2] := fun _ => by
  subst e1 e2
  have hg := grow_new W (.cells #[.slice A1 k1.length c1, .slice A2 k2.length c2] 22)
  have hb := heap_alloc_new W (.cells #[.slice A1 k1.length c1, .slice A2 k2.length c2] 22)
  refine ⟨W.heap.size, 0, rfl, heap_lt hb, fun i hi => ?_⟩
  match i, hi with
  | 0, _ => exact ⟨A1, c1, cell_of_row _ _ 0 _ _ (0, 0) hb, n1, h1.grow hg⟩
  | 1, _ => exact ⟨A2, c2, cell_of_row _ _ 1 _ _ (0, 0) hb, n2, h2.grow hg⟩
  | i + 2, hi => simp at hi; omega
theorem allH_each {s : List UInt8} {h : Hd} (hr : parseR s = some h) {m : Nat} (hs : s.length ≤ m) : ∀ x ∈ allH h, x.length ≤ m := by
  obtain ⟨k1, rfl⟩ := parseR_iff.1 hr
  have part : ∀ (a w b : List UInt8), w.length ≤ (partD a w b).length := fun a w b => by
    unfold partD
    by_cases h0 : w = []
    · rw [if_pos h0, h0]; exact Nat.le_refl _
    · rw [if_neg h0]; simp only [List.length_append]; omega
  have loc : ∀ (ls : List (List UInt8)) x, x ∈ ls → x.length ≤ (locT ls).length := fun ls => by
    induction ls with
    | nil => intro x hx; simp at hx
    | cons a r ih =>
      intro x hx
      show x.length ≤ (partD [59] a [] ++ locT r).length
      rw [List.length_append]
      rcases List.mem_cons.1 hx with rfl | hx
      · have := part [59] x []; omega
      · have := ih x hx; omega
  have p1 := part [] h.res arrowT
  have p2 := part [] h.left [32]
  have p3 := part [40] h.f [32]
  have p4 := part [32] h.g []
  have p5 := part [32] h.right []
  unfold textH frontT at hs
  simp only [List.length_append] at hs
  intro x hx
  simp only [allH, List.mem_cons] at hx
  rcases hx with rfl | rfl | rfl | rfl | rfl | rfl | hx
  · omega
  · omega
  · omega
  · omega
  · omega
  · omega
  · have := loc h.locs x hx; omega

/-- the answer of function.head -/
def HeadR (o : Option Hd) (w : World) (e : Ending) (w' : World) : Prop := ∃ A n c, e = .returned (.tuple #[hdV (o.getD hd0) A n c, .bool o.isSome]) ∧ Grow w w'

set_option maxHeartbeats 12800000 in
theorem head_any (A : Option Addr) (n c : Nat) (ls : List (List UInt8)) (w : World) (hn : ls.length = n) (hb : n ≤ 1100000) (hr : Strs w w.heap.size A ls) (hs : ∀ s ∈ ls, s.length ≤ 800000) (hm : MaxAt w) :
    Calls Tryd.prog 36 #[.slice A n c] w (HeadR (headL ls) w) := by
  obtain ⟨rb, hrb⟩ : ∃ rb, w.heap.size = rb := ⟨_, rfl⟩
  have hg1 := grow_new w (.cells #[.string ⟨#[]⟩, .string ⟨#[]⟩, .string ⟨#[]⟩, .string ⟨#[]⟩, .string ⟨#[]⟩, .string ⟨#[]⟩, .slice none 0 0] 33)
  have hbx : BoxH (w.alloc (.cells #[.string ⟨#[]⟩, .string ⟨#[]⟩, .string ⟨#[]⟩, .string ⟨#[]⟩, .string ⟨#[]⟩, .string ⟨#[]⟩, .slice none 0 0] 33)) rb hd0 none 0 0 := by rw [← hrb]; exact boxH_new w hd0 none 0 0
  have HG1 := Lib.hid hg1
  have HX1 := Lib.hid hbx
  have HRB := Lib.hid hrb
  have HWB : Hid (w.heap.size ≤ rb) := Lib.hid (by omega)
  have HR := Lib.hid hr
  have HN := Lib.hid hn
  have HS := Lib.hid hs
  have HM := Lib.hid hm
  have HBIG : Hid (∀ s ∈ ls, s.length ≤ 1100000) := Lib.hid (fun s h => by have := hs s h; omega)
  clear hg1 hbx hrb hr hn hs hm
  go_enter Tryd.func36, Tryd.ntmps36
  go_upto_region 1 with fail
  rw [HRB.out]
  generalize w.alloc (.cells #[.string ⟨#[]⟩, .string ⟨#[]⟩, .string ⟨#[]⟩, .string ⟨#[]⟩, .string ⟨#[]⟩, .string ⟨#[]⟩, .slice none 0 0] 33) = w1 at HG1 HX1 ⊢
  by_cases h0 : n = 0
  · have HP := Lib.hid (bad_lines (ls := ls) (.inl (List.eq_nil_of_length_eq_zero (by rw [HN.out]; exact h0))))
    subst h0
    have r0 := HX1.out.at0
    have r1 := HX1.out.at1
    have r2 := HX1.out.at2
    have r3 := HX1.out.at3
    have r4 := HX1.out.at4
    have r5 := HX1.out.at5
    have r6 := HX1.out.at6
    have f0 := HX1.out.froz 0
    have f1 := HX1.out.froz 1
    have f2 := HX1.out.froz 2
    have f3 := HX1.out.froz 3
    have f4 := HX1.out.froz 4
    have f5 := HX1.out.froz 5
    have f6 := HX1.out.froz 6
    go_wp2
    generalize hwE : World.setCell _ _ _ = wE
    have hsE : BoxH wE rb hd0 none 0 0 := by rw [← hwE]; exact HX1.out.all hd0 none 0 0
    have HGR := Lib.hid (show Grow w wE by rw [← hwE]; exact Below.trans HG1.out (below_all _ _ _ HWB.out _ _ _ _ _ _ _))
    have z0 := hsE.at0
    have z1 := hsE.at1
    have z2 := hsE.at2
    have z3 := hsE.at3
    have z4 := hsE.at4
    have z5 := hsE.at5
    have z6 := hsE.at6
    refine bodyPost_ret (v := .tuple #[hdV hd0 none 0 0, .bool false]) (by simp [hdV, strv, results, Tryd.results36, go_sem, z0, z1, z2, z3, z4, z5, z6]) rfl ?_
    rw [HP.out]
    exact ⟨none, 0, 0, rfl, HGR.out⟩
  by_cases h1 : 1000 < n
  · have HP := Lib.hid (bad_lines (ls := ls) (.inr (.inl (by rw [HN.out]; exact h1))))
    have h1i : (1000 : Int) < ((n : Nat) : Int) := by omega
    have h0b : (((n : Nat) : Int) == 0) = false := by rw [beq_eq_false_iff_ne]; omega
    have h0n : (n == 0) = false := by rw [beq_eq_false_iff_ne]; omega
    have r0 := HX1.out.at0
    have r1 := HX1.out.at1
    have r2 := HX1.out.at2
    have r3 := HX1.out.at3
    have r4 := HX1.out.at4
    have r5 := HX1.out.at5
    have r6 := HX1.out.at6
    have f0 := HX1.out.froz 0
    have f1 := HX1.out.froz 1
    have f2 := HX1.out.froz 2
    have f3 := HX1.out.froz 3
    have f4 := HX1.out.froz 4
    have f5 := HX1.out.froz 5
    have f6 := HX1.out.froz 6
    go_wp2
    generalize hwE : World.setCell _ _ _ = wE
    have hsE : BoxH wE rb hd0 none 0 0 := by rw [← hwE]; exact HX1.out.all hd0 none 0 0
    have HGR := Lib.hid (show Grow w wE by rw [← hwE]; exact Below.trans HG1.out (below_all _ _ _ HWB.out _ _ _ _ _ _ _))
    have z0 := hsE.at0
    have z1 := hsE.at1
    have z2 := hsE.at2
    have z3 := hsE.at3
    have z4 := hsE.at4
    have z5 := hsE.at5
    have z6 := hsE.at6
    refine bodyPost_ret (v := .tuple #[hdV hd0 none 0 0, .bool false]) (by simp [hdV, strv, results, Tryd.results36, go_sem, z0, z1, z2, z3, z4, z5, z6]) rfl ?_
    rw [HP.out]
    exact ⟨none, 0, 0, rfl, HGR.out⟩
  have h1i : ¬ (1000 : Int) < ((n : Nat) : Int) := by omega
  have h0b : (((n : Nat) : Int) == 0) = false := by rw [beq_eq_false_iff_ne]; omega
  have h0n : (n == 0) = false := by rw [beq_eq_false_iff_ne]; omega
  have HNE : Hid (ls ≠ []) := Lib.hid (fun e => h0 (by rw [← HN.out, e]; rfl))
  have HLE : Hid (ls.length ≤ 1000) := Lib.hid (by rw [HN.out]; omega)
  obtain ⟨α, hα⟩ : ∃ α, ls.all lineD = α := ⟨_, rfl⟩
  have hcl := cont_lines lineD A n c ls w1 HN.out hb (HR.out.grow HG1.out) HBIG.out (fun x W hx _ => ask_line x W hx)
  rw [hα] at hcl
  have HCL := Lib.hid hcl
  have HAL := Lib.hid hα
  clear hcl hα
  cases α with
  | false =>
    have HP := Lib.hid (bad_lines (ls := ls) (.inr (.inr HAL.out)))
    go_wp2_with fail
    refine (HCL.out).mono ?_
    rintro e w2 ⟨rfl, hg⟩
    have HG2 := Lib.hid (HG1.out.trans hg)
    have HX2 := Lib.hid (HX1.out.grow hg)
    clear hg
    have r0 := HX2.out.at0
    have r1 := HX2.out.at1
    have r2 := HX2.out.at2
    have r3 := HX2.out.at3
    have r4 := HX2.out.at4
    have r5 := HX2.out.at5
    have r6 := HX2.out.at6
    have f0 := HX2.out.froz 0
    have f1 := HX2.out.froz 1
    have f2 := HX2.out.froz 2
    have f3 := HX2.out.froz 3
    have f4 := HX2.out.froz 4
    have f5 := HX2.out.froz 5
    have f6 := HX2.out.froz 6
    go_wp2
    generalize hwE : World.setCell _ _ _ = wE
    have hsE : BoxH wE rb hd0 none 0 0 := by rw [← hwE]; exact HX2.out.all hd0 none 0 0
    have HGR := Lib.hid (show Grow w wE by rw [← hwE]; exact Below.trans HG2.out (below_all _ _ _ HWB.out _ _ _ _ _ _ _))
    have z0 := hsE.at0
    have z1 := hsE.at1
    have z2 := hsE.at2
    have z3 := hsE.at3
    have z4 := hsE.at4
    have z5 := hsE.at5
    have z6 := hsE.at6
    refine bodyPost_ret (v := .tuple #[hdV hd0 none 0 0, .bool false]) (by simp [hdV, strv, results, Tryd.results36, go_sem, z0, z1, z2, z3, z4, z5, z6]) rfl ?_
    rw [HP.out]
    exact ⟨none, 0, 0, rfl, HGR.out⟩
  | true =>
    go_wp2_with fail
    refine (HCL.out).mono ?_
    rintro e w2 ⟨rfl, hg⟩
    have HG2 := Lib.hid (HG1.out.trans hg)
    have HX2 := Lib.hid (HX1.out.grow hg)
    clear hg HX1 HG1 HCL
    have hkl : 0 < ls.length := by rw [HN.out]; omega
    obtain ⟨b, off, rfl, hbb, hcl⟩ := HR.out.grow HG2.out hkl
    have hc := hcl 0 hkl
    have hx1 := getD_len HS.out 0
    obtain ⟨s, hs⟩ : ∃ s, ls.getD 0 [] = s := ⟨_, rfl⟩
    obtain ⟨o, ho⟩ : ∃ o, parseR s = o := ⟨_, rfl⟩
    have HPO : Hid (parseR (ls.getD 0 []) = o) := Lib.hid (by rw [hs]; exact ho)
    rw [hs] at hc hx1
    have hc' : w2.cell? ⟨b, off, none⟩ = some (.string ⟨s.toArray⟩) := hc
    have hpa := pparse_any s w2 hx1 (HM.out.grow HG2.out)
    rw [parse_same, ho] at hpa
    have HPA := Lib.hid hpa
    have HLEN := Lib.hid (labels_len ls)
    have HLB : Hid (∀ W, Grow w W → Calls Tryd.prog 13 #[.slice (some ⟨b, off, none⟩) n c] W (OwnR (labelsD ls) W)) := Lib.hid (fun W hW => labels_any _ n c ls W HN.out hb (HR.out.grow hW) HBIG.out (HM.out.grow hW))
    have HLE1 := Lib.hid (labels_each HBIG.out)
    have HSM := Lib.hid hx1
    have HOO := Lib.hid ho
    clear hpa hcl hkl hbb hs ho hx1
    have HBAD : Hid (∀ x, parseR (ls.getD 0 []) = some x → ((labelsD ls).all rightD = false ∨ unlB (allH x ++ labelsD ls) = false) → headL ls = none) := Lib.hid (fun x h1 h2 => bad_rest h1 h2)
    have HGOOD : Hid (∀ x, parseR (ls.getD 0 []) = some x → (labelsD ls).all rightD = true → unlB (allH x ++ labelsD ls) = true → headL ls = some x) := Lib.hid (fun x h1 h2 h3 => good_lines HNE.out HLE.out HAL.out h1 h2 h3)
    generalize labelsD ls = lbs at HLEN HLB HLE1 HBAD HGOOD
    cases o with
    | none =>
      have HP := Lib.hid (bad_parse (ls := ls) HPO.out)
      go_wp2_with fail
      refine (HPA.out).mono ?_
      rintro e w3 ⟨A3, n3, c3, rfl, hin, hg⟩
      have hg4 := grow_new w3 (.cells #[.string ⟨#[]⟩, .string ⟨#[]⟩, .string ⟨#[]⟩, .string ⟨#[]⟩, .string ⟨#[]⟩, .string ⟨#[]⟩, .slice A3 n3 c3] 33)
      have HG4 := Lib.hid ((HG2.out.trans hg).trans hg4)
      have HX4 := Lib.hid ((HX2.out.grow hg).grow hg4)
      simp only [Option.getD, Option.isSome, hd0, hdV, strv]
      clear hg hg4 hin hc hc'
      go_upto_region 6 with fail
      generalize w3.alloc (.cells #[.string ⟨#[]⟩, .string ⟨#[]⟩, .string ⟨#[]⟩, .string ⟨#[]⟩, .string ⟨#[]⟩, .string ⟨#[]⟩, .slice A3 n3 c3] 33) = w4 at HG4 HX4 ⊢
      have HLB4 := Lib.hid (HLB.out w4 HG4.out)
      go_wp2_with fail
      refine (HLB4.out).mono ?_
      rintro e w5 ⟨v5, rfl, _, hg⟩
      have HG5 := Lib.hid (HG4.out.trans hg)
      have HX5 := Lib.hid (HX4.out.grow hg)
      clear hg
      have r0 := HX5.out.at0
      have r1 := HX5.out.at1
      have r2 := HX5.out.at2
      have r3 := HX5.out.at3
      have r4 := HX5.out.at4
      have r5 := HX5.out.at5
      have r6 := HX5.out.at6
      have f0 := HX5.out.froz 0
      have f1 := HX5.out.froz 1
      have f2 := HX5.out.froz 2
      have f3 := HX5.out.froz 3
      have f4 := HX5.out.froz 4
      have f5 := HX5.out.froz 5
      have f6 := HX5.out.froz 6
      go_wp2
      generalize hwE : World.setCell _ _ _ = wE
      have hsE : BoxH wE rb hd0 none 0 0 := by rw [← hwE]; exact HX5.out.all hd0 none 0 0
      have HGR := Lib.hid (show Grow w wE by rw [← hwE]; exact Below.trans HG5.out (below_all _ _ _ HWB.out _ _ _ _ _ _ _))
      have z0 := hsE.at0
      have z1 := hsE.at1
      have z2 := hsE.at2
      have z3 := hsE.at3
      have z4 := hsE.at4
      have z5 := hsE.at5
      have z6 := hsE.at6
      refine bodyPost_ret (v := .tuple #[hdV hd0 none 0 0, .bool false]) (by simp [hdV, strv, results, Tryd.results36, go_sem, z0, z1, z2, z3, z4, z5, z6]) rfl ?_
      rw [HP.out]
      exact ⟨none, 0, 0, rfl, HGR.out⟩
    | some h =>
      go_wp2_with fail
      refine (HPA.out).mono ?_
      rintro e w3 ⟨A3, n3, c3, rfl, hin, hg⟩
      simp only [Option.getD, Option.isSome] at hin ⊢
      have hg4 := grow_new w3 (.cells #[.string ⟨h.res.toArray⟩, .string ⟨h.left.toArray⟩, .string ⟨h.name.toArray⟩, .string ⟨h.right.toArray⟩, .string ⟨h.f.toArray⟩, .string ⟨h.g.toArray⟩, .slice A3 n3 c3] 33)
      have HG4 := Lib.hid ((HG2.out.trans hg).trans hg4)
      have HX4 := Lib.hid ((HX2.out.grow hg).grow hg4)
      have hb4 := boxH_new w3 h A3 n3 c3
      have HI4 := Lib.hid (hin.grow hg4)
      obtain ⟨hb_, hhb⟩ : ∃ hb, w3.heap.size = hb := ⟨_, rfl⟩
      have HHB := Lib.hid hhb
      rw [hhb] at hb4
      have HB4 := Lib.hid hb4
      have HAE := Lib.hid (allH_each HOO.out HSM.out)
      have HI5L : Hid ((allH h).length ≤ 1050006) := Lib.hid (by have := hin.len; have := hin.top; simp only [allH, List.length_cons]; omega)
      unfold hdV strv
      clear hg hg4 hin hc hc' hb4 hhb HPA
      go_upto_region 6 with fail
      rw [HHB.out]
      generalize w3.alloc (.cells #[.string ⟨h.res.toArray⟩, .string ⟨h.left.toArray⟩, .string ⟨h.name.toArray⟩, .string ⟨h.right.toArray⟩, .string ⟨h.f.toArray⟩, .string ⟨h.g.toArray⟩, .slice A3 n3 c3] 33) = w4 at HG4 HX4 HI4 HB4 ⊢
      have HLB4 := Lib.hid (HLB.out w4 HG4.out)
      go_wp2_with fail
      refine (HLB4.out).mono ?_
      rintro e w5 ⟨v5, rfl, hown, hg⟩
      have HG5 := Lib.hid (HG4.out.trans hg)
      have HX5 := Lib.hid (HX4.out.grow hg)
      have HB5 := Lib.hid (HB4.out.grow hg)
      have HI5 := Lib.hid (HI4.out.grow hg)
      obtain ⟨A5, c5, rfl, _, hz5, hs5⟩ := hown.strs'
      obtain ⟨m5, hm5⟩ : ∃ m5, lbs.length = m5 := ⟨_, rfl⟩
      rw [hm5]
      have HM5 := Lib.hid hm5
      have HZ5 := Lib.hid hz5
      have HS5 := Lib.hid hs5
      have hm5b : m5 ≤ 1100000 := by have := HLEN.out; have := HLE.out; omega
      obtain ⟨β, hβ⟩ : ∃ β, lbs.all rightD = β := ⟨_, rfl⟩
      have hcl := cont_labs rightD A5 m5 c5 lbs w5 hm5 hm5b hs5 HLE1.out (fun x W hx _ => ask_label x W hx)
      rw [hβ] at hcl
      have HCL := Lib.hid hcl
      have HAB := Lib.hid hβ
      clear hg hown hz5 hs5 hm5 hcl hβ HX4 HB4 HI4 HLB4 HG4
      cases β with
      | false =>
        have HP := Lib.hid (HBAD.out h HPO.out (.inl HAB.out))
        go_wp2_with fail
        refine (HCL.out).mono ?_
        rintro e w6 ⟨rfl, hg⟩
        have HG6 := Lib.hid (HG5.out.trans hg)
        have HX6 := Lib.hid (HX5.out.grow hg)
        clear hg
        have r0 := HX6.out.at0
        have r1 := HX6.out.at1
        have r2 := HX6.out.at2
        have r3 := HX6.out.at3
        have r4 := HX6.out.at4
        have r5 := HX6.out.at5
        have r6 := HX6.out.at6
        have f0 := HX6.out.froz 0
        have f1 := HX6.out.froz 1
        have f2 := HX6.out.froz 2
        have f3 := HX6.out.froz 3
        have f4 := HX6.out.froz 4
        have f5 := HX6.out.froz 5
        have f6 := HX6.out.froz 6
        go_wp2
        generalize hwE : World.setCell _ _ _ = wE
        have hsE : BoxH wE rb hd0 none 0 0 := by rw [← hwE]; exact HX6.out.all hd0 none 0 0
        have HGR := Lib.hid (show Grow w wE by rw [← hwE]; exact Below.trans HG6.out (below_all _ _ _ HWB.out _ _ _ _ _ _ _))
        have z0 := hsE.at0
        have z1 := hsE.at1
        have z2 := hsE.at2
        have z3 := hsE.at3
        have z4 := hsE.at4
        have z5 := hsE.at5
        have z6 := hsE.at6
        refine bodyPost_ret (v := .tuple #[hdV hd0 none 0 0, .bool false]) (by simp [hdV, strv, results, Tryd.results36, go_sem, z0, z1, z2, z3, z4, z5, z6]) rfl ?_
        rw [HP.out]
        exact ⟨none, 0, 0, rfl, HGR.out⟩
      | true =>
        go_wp2_with fail
        refine (HCL.out).mono ?_
        rintro e w6 ⟨rfl, hg⟩
        have HG6 := Lib.hid (HG5.out.trans hg)
        have HX6 := Lib.hid (HX5.out.grow hg)
        have HB6 := Lib.hid (HB5.out.grow hg)
        have HS6 := Lib.hid (HS5.out.grow hg)
        have hnm := names_any h A3 n3 c3 w6 (HI5.out.grow hg)
        unfold hdV strv at hnm
        have HNM := Lib.hid hnm
        clear hg hnm HX5 HB5 HS5 HI5 HCL HG5
        have q0 := HB6.out.at0
        have q1 := HB6.out.at1
        have q2 := HB6.out.at2
        have q3 := HB6.out.at3
        have q4 := HB6.out.at4
        have q5 := HB6.out.at5
        have q6 := HB6.out.at6
        go_wp2_with fail
        refine (HNM.out).mono ?_
        rintro e w7 ⟨v7, rfl, hown, hg⟩
        obtain ⟨A7, c7, rfl, _, hz7, hs7⟩ := hown.strs'
        obtain ⟨m7, hm7⟩ : ∃ m7, (allH h).length = m7 := ⟨_, rfl⟩
        rw [hm7]
        have hg8 := grow_new w7 (.cells #[.slice A7 m7 c7, .slice A5 m5 c5] 22)
        have HG8 := Lib.hid ((HG6.out.trans hg).trans hg8)
        have HX8 := Lib.hid ((HX6.out.grow hg).grow hg8)
        have HB8 := Lib.hid ((HB6.out.grow hg).grow hg8)
        have hr8 := rows2 w7 hs7 (HS6.out.grow hg) hm7 HM5.out hz7 HZ5.out
        have hfl : flatK [allH h, lbs] = allH h ++ lbs := by simp [flatK]
        have hfn : (allH h ++ lbs).length ≤ 1100000 := by
          rw [List.length_append, HM5.out]
          have h1 := HI5L.out; have h2 := HLEN.out; have h3 := HLE.out; have h4 := HM5.out
          skip
          omega
        have HCC := Lib.hid (concat_any _ 2 2 _ _ rfl (by decide) (by rw [hfl]; omega) hr8)
        have HFL := Lib.hid hfl
        have HLN := Lib.hid hfn
        clear hg hown hz7 hs7 hm7 hg8 hr8 hfl hfn q0 q1 q2 q3 q4 q5 q6 HX6 HB6 HS6 HG6 HNM
        go_wp2_with fail
        refine (HCC.out).mono ?_
        rintro e w9 ⟨v9, rfl, hg, hown⟩
        rw [HFL.out] at hown
        obtain ⟨A9, c9, rfl, _, hz9, hs9⟩ := hown.strs'
        obtain ⟨m9, hm9⟩ : ∃ m9, (allH h ++ lbs).length = m9 := ⟨_, rfl⟩
        have hm9b : m9 ≤ 1100000 := by rw [← hm9]; exact HLN.out
        obtain ⟨δ, hδ⟩ : ∃ δ, unlB (allH h ++ lbs) = δ := ⟨_, rfl⟩
        have HUU := Lib.hid (unlike_says (n := m9) (c := c9) hδ w9 hm9 hm9b hs9 (by
          intro s hs
          have : s.length ≤ 1100000 := by
            rcases List.mem_append.1 hs with hs | hs
            · have := HAE.out s hs; omega
            · exact HLE1.out s hs
          omega))
        rw [hm9]
        have HG9 := Lib.hid (HG8.out.trans hg)
        have HX9 := Lib.hid (HX8.out.grow hg)
        have HB9 := Lib.hid (HB8.out.grow hg)
        have HAD := Lib.hid hδ
        clear hg hown hz9 hs9 hm9 hδ HX8 HB8 HG8 HCC
        cases δ with
        | false =>
          have HP := Lib.hid (HBAD.out h HPO.out (.inr HAD.out))
          go_wp2_with fail
          refine (HUU.out).mono ?_
          rintro e w10 ⟨rfl, hg⟩
          have HG10 := Lib.hid (HG9.out.trans hg)
          have HX10 := Lib.hid (HX9.out.grow hg)
          clear hg
          have r0 := HX10.out.at0
          have r1 := HX10.out.at1
          have r2 := HX10.out.at2
          have r3 := HX10.out.at3
          have r4 := HX10.out.at4
          have r5 := HX10.out.at5
          have r6 := HX10.out.at6
          have f0 := HX10.out.froz 0
          have f1 := HX10.out.froz 1
          have f2 := HX10.out.froz 2
          have f3 := HX10.out.froz 3
          have f4 := HX10.out.froz 4
          have f5 := HX10.out.froz 5
          have f6 := HX10.out.froz 6
          go_wp2
          generalize hwE : World.setCell _ _ _ = wE
          have hsE : BoxH wE rb hd0 none 0 0 := by rw [← hwE]; exact HX10.out.all hd0 none 0 0
          have HGR := Lib.hid (show Grow w wE by rw [← hwE]; exact Below.trans HG10.out (below_all _ _ _ HWB.out _ _ _ _ _ _ _))
          have z0 := hsE.at0
          have z1 := hsE.at1
          have z2 := hsE.at2
          have z3 := hsE.at3
          have z4 := hsE.at4
          have z5 := hsE.at5
          have z6 := hsE.at6
          refine bodyPost_ret (v := .tuple #[hdV hd0 none 0 0, .bool false]) (by simp [hdV, strv, results, Tryd.results36, go_sem, z0, z1, z2, z3, z4, z5, z6]) rfl ?_
          rw [HP.out]
          exact ⟨none, 0, 0, rfl, HGR.out⟩
        | true =>
          have HP := Lib.hid (HGOOD.out h HPO.out HAB.out HAD.out)
          go_wp2_with fail
          refine (HUU.out).mono ?_
          rintro e w10 ⟨rfl, hg⟩
          have HG10 := Lib.hid (HG9.out.trans hg)
          have HX10 := Lib.hid (HX9.out.grow hg)
          have HB10 := Lib.hid (HB9.out.grow hg)
          clear hg
          have q0 := HB10.out.at0
          have q1 := HB10.out.at1
          have q2 := HB10.out.at2
          have q3 := HB10.out.at3
          have q4 := HB10.out.at4
          have q5 := HB10.out.at5
          have q6 := HB10.out.at6
          have r0 := HX10.out.at0
          have r1 := HX10.out.at1
          have r2 := HX10.out.at2
          have r3 := HX10.out.at3
          have r4 := HX10.out.at4
          have r5 := HX10.out.at5
          have r6 := HX10.out.at6
          have f0 := HX10.out.froz 0
          have f1 := HX10.out.froz 1
          have f2 := HX10.out.froz 2
          have f3 := HX10.out.froz 3
          have f4 := HX10.out.froz 4
          have f5 := HX10.out.froz 5
          have f6 := HX10.out.froz 6
          go_wp2
          generalize hwE : World.setCell _ _ _ = wE
          have hsE : BoxH wE rb h A3 n3 c3 := by rw [← hwE]; exact HX10.out.all h A3 n3 c3
          have HGR := Lib.hid (show Grow w wE by rw [← hwE]; exact Below.trans HG10.out (below_all _ _ _ HWB.out _ _ _ _ _ _ _))
          have z0 := hsE.at0
          have z1 := hsE.at1
          have z2 := hsE.at2
          have z3 := hsE.at3
          have z4 := hsE.at4
          have z5 := hsE.at5
          have z6 := hsE.at6
          refine bodyPost_ret (v := .tuple #[hdV h A3 n3 c3, .bool true]) (by simp [hdV, strv, results, Tryd.results36, go_sem, z0, z1, z2, z3, z4, z5, z6]) rfl ?_
          rw [HP.out]
          exact ⟨A3, n3, c3, rfl, HGR.out⟩
theorem head_says {ls : List (List UInt8)} {o : Option Hd} (e : headL ls = o) (A : Option Addr) (n c : Nat) (w : World) (hn : ls.length = n) (hb : n ≤ 1100000) (hr : Strs w w.heap.size A ls) (hs : ∀ s ∈ ls, s.length ≤ 800000) (hm : MaxAt w) :
    Calls Tryd.prog 36 #[.slice A n c] w (HeadR o w) := by
  subst e
  exact head_any A n c ls w hn hb hr hs hm
theorem rightL_any (A : Option Addr) (n c : Nat) (ls : List (List UInt8)) (w : World) (hn : ls.length = n) (hb : n ≤ 1100000) (hr : Strs w w.heap.size A ls) (hs : ∀ s ∈ ls, s.length ≤ 800000) (hm : MaxAt w) :
    Calls Tryd.prog 15 #[.slice A n c] w (Says (headL ls).isSome w) := by
  obtain ⟨o, ho⟩ : ∃ o, headL ls = o := ⟨_, rfl⟩
  have HC := Lib.hid (head_says ho A n c w hn hb hr hs hm)
  rw [ho]
  clear hn hb hr hs hm ho
  go_enter Tryd.func15, Tryd.ntmps15
  go_wp2_with fail
  refine (HC.out).mono ?_
  rintro e w2 ⟨A3, n3, c3, rfl, hg⟩
  obtain ⟨h, hh⟩ : ∃ h, o.getD hd0 = h := ⟨_, rfl⟩
  obtain ⟨b, hb⟩ : ∃ b, o.isSome = b := ⟨_, rfl⟩
  rw [hh, hb]
  unfold hdV strv
  have HG := Lib.hid (hg.trans (grow_new w2 (.cells #[.string ⟨h.res.toArray⟩, .string ⟨h.left.toArray⟩, .string ⟨h.name.toArray⟩, .string ⟨h.right.toArray⟩, .string ⟨h.f.toArray⟩, .string ⟨h.g.toArray⟩, .slice A3 n3 c3] 33)))
  have HBB := Lib.hid hb
  clear hg hh hb HC
  go_wp2
  go_ret
  exact ⟨by rw [HBB.out]; rfl, HG.out⟩
theorem nameL_any (A : Option Addr) (n c : Nat) (ls : List (List UInt8)) (w : World) (hn : ls.length = n) (hb : n ≤ 1100000) (hr : Strs w w.heap.size A ls) (hs : ∀ s ∈ ls, s.length ≤ 800000) (hm : MaxAt w) :
    Calls Tryd.prog 17 #[.slice A n c] w (Gave (nameL ls) w) := by
  obtain ⟨o, ho⟩ : ∃ o, headL ls = o := ⟨_, rfl⟩
  have HC := Lib.hid (head_says ho A n c w hn hb hr hs hm)
  have HF : Hid (nameL ls = (o.getD hd0).name) := Lib.hid (by unfold nameL; rw [ho]; cases o <;> rfl)
  clear hn hb hr hs hm ho
  go_enter Tryd.func17, Tryd.ntmps17
  go_wp2_with fail
  refine (HC.out).mono ?_
  rintro e w2 ⟨A3, n3, c3, rfl, hg⟩
  obtain ⟨h, hh⟩ : ∃ h, o.getD hd0 = h := ⟨_, rfl⟩
  obtain ⟨b, hb⟩ : ∃ b, o.isSome = b := ⟨_, rfl⟩
  rw [hh] at HF
  rw [hh, hb]
  unfold hdV strv
  have HG := Lib.hid (hg.trans (grow_new w2 (.cells #[.string ⟨h.res.toArray⟩, .string ⟨h.left.toArray⟩, .string ⟨h.name.toArray⟩, .string ⟨h.right.toArray⟩, .string ⟨h.f.toArray⟩, .string ⟨h.g.toArray⟩, .slice A3 n3 c3] 33)))
  clear hg hh hb HC
  go_wp2
  go_ret
  exact ⟨by rw [HF.out]; rfl, HG.out⟩
end Go.Proofs.YtcnijmmpkahoaaaDoor
