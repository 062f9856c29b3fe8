/-
  HeaderResult comes to true, whatever it is called with.
-/
import Derived.Test.YtibcnekkmnicbaaDoorLBack
namespace Go.Proofs.YtibcnekkmnicbaaDoor
open Go.RowKit Go.Lib
set_option linter.unusedSimpArgs false
set_option linter.unusedVariables false
set_option maxRecDepth 10000

/-! ### a result -/
theorem res_right {h : Hd} {s : List UInt8} (hr : rightH h = true) (hs : rightD s = true) : rightH { h with res := s } = unlB (allH { h with res := s }) := by
  obtain ⟨k1, k2, k3, k4, k5, k6⟩ := right_parts hr
  have km : (mayH { h with res := s }).all mayD = true := by
    simp only [mayH, List.all_cons, List.all_nil, Bool.and_true, Bool.and_eq_true] at k2 ⊢
    exact ⟨by unfold mayD; rw [hs]; simp, k2.2⟩
  generalize hu : unlB (allH { h with res := s }) = u
  unfold rightH
  rw [hu, km]
  show (rightD h.name && true && h.locs.all rightD && u && (!shapeR h && !shapeG h)) = _
  rw [k1, k3, k5, k6]
  simp
theorem res_text {h : Hd} {s : List UInt8} (h0 : h.res = []) (hs : s ≠ []) : textH { h with res := s } = s ++ [226, 134, 144] ++ textH h := by
  unfold textH frontT
  dsimp only
  rw [h0]
  unfold partD
  simp only [hs, if_false, if_true, List.nil_append, List.append_assoc]
  rfl
theorem res_in {w : World} {h : Hd} {A : Option Addr} {n c : Nat} {s : List UInt8} (k : HdIn w A n c h) (hs : s.length ≤ 1000000) : HdIn w A n c { h with res := s } :=
  ⟨k.len, k.cap, k.top, k.none, k.strs, fun x hx => by
    simp only [allH, List.mem_cons] at hx
    rcases hx with rfl | hx
    · exact hs
    · exact k.each x (by simp only [allH, List.mem_cons]; exact .inr hx)⟩

set_option maxHeartbeats 6400000 in
theorem lresult_walk (h : Hd) (A : Option Addr) (n c : Nat) (s : List UInt8) (w : World) (k : IsHead w A n c h) (hL : MaxAt w) (hl : s.length ≤ 9223372036854775807) :
    Calls Tryd.prog 7 #[hdV h A n c, .string ⟨s.toArray⟩] w (Fine w) := by
  have hg1 := grow_new w (.cells #[.string ⟨h.res.toArray⟩, .string ⟨h.left.toArray⟩, .string ⟨h.name.toArray⟩, .string ⟨h.right.toArray⟩, .string ⟨h.f.toArray⟩, .string ⟨h.g.toArray⟩, .slice A n c] 24)
  have HG1 := Lib.hid hg1
  have HB1 := Lib.hid (boxH_new w h A n c)
  have HK1 := Lib.hid (k.grow hg1)
  have HM1 := Lib.hid (hL.grow hg1)
  obtain ⟨nb, hnb2⟩ : ∃ nb, w.heap.size = nb := ⟨_, rfl⟩
  have HNB := Lib.hid hnb2
  rw [hnb2] at HB1
  have hsz := str_size s
  unfold hdV strv
  clear k hg1 hnb2 hL
  go_enter Tryd.func7, Tryd.ntmps7
  go_upto_region 1 with fail
  rw [HNB.out]
  generalize w.alloc (.cells #[.string ⟨h.res.toArray⟩, .string ⟨h.left.toArray⟩, .string ⟨h.name.toArray⟩, .string ⟨h.right.toArray⟩, .string ⟨h.f.toArray⟩, .string ⟨h.g.toArray⟩, .slice A n c] 24) = w1 at HG1 HB1 HK1 HM1 ⊢
  have HS := Lib.hid (small_any w1 HM1.out)
  go_wp2_with fail
  refine (HS.out).mono ?_
  rintro e w2 ⟨rfl, hg⟩
  have HG2 := Lib.hid (HG1.out.trans hg)
  have HB2 := Lib.hid (HB1.out.grow hg)
  have HK2 := Lib.hid (HK1.out.grow hg)
  clear hg HS HB1 HK1 HM1
  have b0 := HB2.out.at0
  have b1 := HB2.out.at1
  have b2 := HB2.out.at2
  have b3 := HB2.out.at3
  have b4 := HB2.out.at4
  have b5 := HB2.out.at5
  have b6 := HB2.out.at6
  by_cases hf : fewP h
  rotate_left
  · have hc := few_says (decide_eq_false hf) HK2.out
    unfold hdV strv at hc
    have HC := Lib.hid hc
    clear hc hf
    go_wp2_with fail
    refine (HC.out).mono ?_
    rintro e w3 ⟨rfl, hg⟩
    have HG3 := Lib.hid (HG2.out.trans hg)
    clear hg b0 b1 b2 b3 b4 b5 b6
    go_wp2
    go_ret
    exact ⟨rfl, HG3.out⟩
  have hc := few_says (decide_eq_true hf) HK2.out
  unfold hdV strv at hc
  have HC := Lib.hid hc
  obtain ⟨hin, hfl, hfe⟩ := few_in HK2.out hf
  have HIN := Lib.hid hin
  have HFL := Lib.hid hfl
  have HFE := Lib.hid hfe
  clear hc hf hin hfl hfe HK2
  by_cases hlen : 100 < s.length
  · have hli : (100 : Int) < ((s.length : Nat) : Int) := by omega
    have hlb : decide ((100 : Int) < ((s.length : Nat) : Int)) = true := decide_eq_true hli
    have hlc : decide (100 < s.length) = true := decide_eq_true hlen
    go_wp2_with fail
    refine (HC.out).mono ?_
    rintro e w3 ⟨rfl, hg⟩
    have HG3 := Lib.hid (HG2.out.trans hg)
    clear hg b0 b1 b2 b3 b4 b5 b6
    go_wp2
    go_ret
    exact ⟨rfl, HG3.out⟩
  have hli : ¬ (100 : Int) < ((s.length : Nat) : Int) := by omega
  have hlb : decide ((100 : Int) < ((s.length : Nat) : Int)) = false := decide_eq_false hli
  have hlc : decide (100 < s.length) = false := decide_eq_false hlen
  go_wp2_with fail
  refine (HC.out).mono ?_
  rintro e w3 ⟨rfl, hg⟩
  have HG3 := Lib.hid (HG2.out.trans hg)
  have HB3 := Lib.hid (HB2.out.grow hg)
  have HI3 := Lib.hid (HIN.out.grow hg)
  clear hg b0 b1 b2 b3 b4 b5 b6 HC HB2 HIN
  have b0 := HB3.out.at0
  have b1 := HB3.out.at1
  have b2 := HB3.out.at2
  have b3 := HB3.out.at3
  have b4 := HB3.out.at4
  have b5 := HB3.out.at5
  have b6 := HB3.out.at6
  by_cases h0 : h.res = []
  rotate_left
  · have h0b : (h.res == []) = false := beq_eq_false_iff_ne.2 h0
    clear h0
    go_wp2
    go_ret
    exact ⟨rfl, HG3.out⟩
  have h0b : (h.res == []) = true := by rw [h0]; rfl
  have HR0 := Lib.hid h0
  clear h0
  obtain ⟨ρ, hρ⟩ : ∃ ρ, rightH h = ρ := ⟨_, rfl⟩
  have hr := right_says2 hρ HI3.out
  unfold hdV strv at hr
  have HR := Lib.hid hr
  have HRR := Lib.hid hρ
  clear hr hρ
  cases ρ with
  | false =>
    go_wp2_with fail
    refine (HR.out).mono ?_
    rintro e w4 ⟨rfl, hg⟩
    have HG4 := Lib.hid (HG3.out.trans hg)
    clear hg b0 b1 b2 b3 b4 b5 b6
    go_wp2
    go_ret
    exact ⟨rfl, HG4.out⟩
  | true =>
  go_wp2_with fail
  refine (HR.out).mono ?_
  rintro e w4 ⟨rfl, hg⟩
  have HG4 := Lib.hid (HG3.out.trans hg)
  have HB4 := Lib.hid (HB3.out.grow hg)
  have HI4 := Lib.hid (HI3.out.grow hg)
  clear hg b0 b1 b2 b3 b4 b5 b6 HR HB3 HI3
  obtain ⟨σ, hσ⟩ : ∃ σ, rightD s = σ := ⟨_, rfl⟩
  have HSS := Lib.hid hσ
  have HN := Lib.hid (right_says hσ w4 (by omega))
  clear hσ
  cases σ with
  | false =>
    go_wp2_with fail
    refine (HN.out).mono ?_
    rintro e w5 ⟨rfl, hg⟩
    have HG5 := Lib.hid (HG4.out.trans hg)
    clear hg
    go_wp2
    go_ret
    exact ⟨rfl, HG5.out⟩
  | true =>
  go_wp2_with fail
  refine (HN.out).mono ?_
  rintro e w5 ⟨rfl, hg⟩
  have HG5 := Lib.hid (HG4.out.trans hg)
  have HB5 := Lib.hid (HB4.out.grow hg)
  have HI5 := Lib.hid (HI4.out.grow hg)
  clear hg HN HB4 HI4
  have b0 := HB5.out.at0
  have b1 := HB5.out.at1
  have b2 := HB5.out.at2
  have b3 := HB5.out.at3
  have b4 := HB5.out.at4
  have b5 := HB5.out.at5
  have b6 := HB5.out.at6
  have hga := grow_new w5 (.cells #[.string ⟨h.res.toArray⟩, .string ⟨h.left.toArray⟩, .string ⟨h.name.toArray⟩, .string ⟨h.right.toArray⟩, .string ⟨h.f.toArray⟩, .string ⟨h.g.toArray⟩, .slice A n c] 24)
  have HX6 := Lib.hid (boxH_new w5 h A n c)
  have HG6 := Lib.hid (HG5.out.trans hga)
  have HB6 := Lib.hid (HB5.out.grow hga)
  have HI6 := Lib.hid (HI5.out.grow hga)
  have HNM : Hid (nb < w5.heap.size) := Lib.hid HB5.out.lt
  obtain ⟨mb, hmb⟩ : ∃ mb, w5.heap.size = mb := ⟨_, rfl⟩
  have HMB := Lib.hid hmb
  rw [hmb] at HX6 HNM
  have HI5' := HI5
  have hs5 := HI5.out.strs
  have hga' : Below w5.heap.size w5 _ := hga
  have hwm := HG5.out.size
  rw [hmb] at hs5 hga' hwm
  have HS5 := Lib.hid hs5
  have HGA := Lib.hid hga'
  have HWM := Lib.hid hwm
  clear hga hga' hs5 hwm hmb HB5 HI5
  go_upto_region 6 with fail
  rw [HMB.out]
  generalize w5.alloc (.cells #[.string ⟨h.res.toArray⟩, .string ⟨h.left.toArray⟩, .string ⟨h.name.toArray⟩, .string ⟨h.right.toArray⟩, .string ⟨h.f.toArray⟩, .string ⟨h.g.toArray⟩, .slice A n c] 24) = w6 at HX6 HG6 HB6 HI6 HGA ⊢
  clear b0 b1 b2 b3 b4 b5 b6
  have m0 := HX6.out.at0
  have f0 := HX6.out.froz 0
  go_upto_region 7 with fail
  generalize hw7 : w6.setCell ⟨mb, 0, none⟩ (.string ⟨s.toArray⟩) = w7
  have HX7 : Hid (BoxH w7 mb { h with res := s } A n c) := Lib.hid (by rw [← hw7]; exact HX6.out.put0 s)
  have hbl : Below mb w6 w7 := by rw [← hw7]; exact Below.setCell (p := ⟨mb, 0, none⟩) (Below.refl _ _) (Nat.le_refl _) _
  have HB7 : Hid (BoxH w7 nb h A n c) := Lib.hid (HB6.out.below hbl HNM.out)
  have HI7 : Hid (HdIn w7 A n c h) := Lib.hid (HI5'.out.below HS5.out (Below.trans HGA.out hbl) (Nat.le_trans (Nat.le_of_lt HX6.out.lt) hbl.size))
  have HIX : Hid (HdIn w7 A n c { h with res := s }) := Lib.hid (res_in HI7.out (by omega))
  have HG7 : Hid (Grow w w7) := Lib.hid (Below.trans HG6.out (Below.mono hbl HWM.out))
  clear hw7 hbl m0 f0 HX6 HB6 HI6 HG6 HI5' HS5 HGA
  have b1 := HB7.out.at1
  have b2 := HB7.out.at2
  have b3 := HB7.out.at3
  have b4 := HB7.out.at4
  have b5 := HB7.out.at5
  have hg8 := grow_new w7 (.cells #[.string ⟨s.toArray⟩, .string ⟨h.left.toArray⟩, .string ⟨h.name.toArray⟩, .string ⟨h.right.toArray⟩, .string ⟨h.f.toArray⟩, .string ⟨h.g.toArray⟩] 9)
  have HO8 : Hid (OwnS w7.heap.size (.slice (some ⟨w7.heap.size, 0, none⟩) 6 6) [s, h.left, h.name, h.right, h.f, h.g] (w7.alloc (.cells #[.string ⟨s.toArray⟩, .string ⟨h.left.toArray⟩, .string ⟨h.name.toArray⟩, .string ⟨h.right.toArray⟩, .string ⟨h.f.toArray⟩, .string ⟨h.g.toArray⟩] 9))) := Lib.hid (ownS_lit w7 [s, h.left, h.name, h.right, h.f, h.g] (by simp))
  have HS8 := Lib.hid (HI7.out.strs.grow hg8)
  have HB8 := Lib.hid (HB7.out.grow hg8)
  have HZ8 : Hid (w7.heap.size ≤ (w7.alloc (.cells #[.string ⟨s.toArray⟩, .string ⟨h.left.toArray⟩, .string ⟨h.name.toArray⟩, .string ⟨h.right.toArray⟩, .string ⟨h.f.toArray⟩, .string ⟨h.g.toArray⟩] 9)).heap.size) := Lib.hid hg8.size
  have HT8 : Hid ([s, h.left, h.name, h.right, h.f, h.g].length + h.locs.length ≤ 1000000000) := Lib.hid (by have := HFL.out; simp; omega)
  have HG8 := Lib.hid hg8
  have b6 := HB8.out.at6
  clear hg8
  go_upto_region 8 with (at_builtin; refine wpList_append_any rfl _ _ rfl w7.heap.size _ [s, h.left, h.name, h.right, h.f, h.g] h.locs A n c rfl HO8.out rfl HI7.out.len HI7.out.none HS8.out HT8.out HZ8.out ?_; intro v9 w9 HO9 HBL9)
  have hgw : Grow w7 w9 := Below.trans HG8.out HBL9
  obtain ⟨A9, c9, rfl, hcap9, hnone9, hst9⟩ := HO9.strs'
  have hst : Strs w9 w9.heap.size A9 (allH { h with res := s }) := hst9
  obtain ⟨n9, hn9⟩ : ∃ n9, ([s, h.left, h.name, h.right, h.f, h.g] ++ h.locs).length = n9 := ⟨_, rfl⟩
  rw [hn9]
  have hn9' : (allH { h with res := s }).length = n9 := hn9
  have hn30 : n9 ≤ 1000000 := by rw [← hn9]; have := HFL.out; simp; omega
  obtain ⟨υ, hυ⟩ : ∃ υ, unlB (allH { h with res := s }) = υ := ⟨_, rfl⟩
  have HU := Lib.hid (unlike_says (c := c9) hυ w9 hn9' hn30 hst (fun x hx => by have := (HIX.out.each x hx); omega))
  have HX9 := Lib.hid (HX7.out.grow hgw)
  have HB9 := Lib.hid (HB7.out.grow hgw)
  have HI9 := Lib.hid (HI7.out.grow hgw)
  have HIX9 := Lib.hid (HIX.out.grow hgw)
  have HG9 := Lib.hid (HG7.out.trans hgw)
  have HRX : Hid (rightH { h with res := s } = υ) := Lib.hid ((res_right HRR.out HSS.out).trans hυ)
  have HTX := Lib.hid (res_text (h := h) HR0.out (right_ne HSS.out))
  clear hgw hcap9 hnone9 hst9 hst hn9 hn9' hn30 hυ HO9 HBL9 b1 b2 b3 b4 b5 b6 HX7 HB7 HI7 HIX HG7 HO8 HS8 HB8 HZ8 HT8 HG8
  go_wp2_with fail
  refine (HU.out).mono ?_
  rintro e w10 ⟨rfl, hg⟩
  have HG10 := Lib.hid (HG9.out.trans hg)
  have HX10 := Lib.hid (HX9.out.grow hg)
  have HB10 := Lib.hid (HB9.out.grow hg)
  have HI10 := Lib.hid (HI9.out.grow hg)
  have HIX10 := Lib.hid (HIX9.out.grow hg)
  clear hg HU HG9 HX9 HB9 HI9 HIX9
  have HCR : Hid (∀ W, Grow w10 W → Calls Tryd.prog 12 #[.agg #[.string ⟨s.toArray⟩, .string ⟨h.left.toArray⟩, .string ⟨h.name.toArray⟩, .string ⟨h.right.toArray⟩, .string ⟨h.f.toArray⟩, .string ⟨h.g.toArray⟩, .slice A n c]] W (Says υ W)) := Lib.hid (fun W hW => right_says2 HRX.out (HIX10.out.grow hW))
  go_upto_region 9 with fail
  cases υ with
  | false =>
    refine wp_region_R Grow (n := 22) rfl (by kernel_rfl) ?_
    intro W0 hW0e hW0
    have HW0 : Hid (Grow w10 W0) := Lib.hid hW0
    have p0 : ∀ wg, Grow W0 wg → wg.cell? ⟨mb, 0, none⟩ = some (.string ⟨s.toArray⟩) := fun wg hh => (HX10.out.grow (HW0.out.trans hh)).at0
    have p1 : ∀ wg, Grow W0 wg → wg.cell? ⟨mb, 1, none⟩ = some (.string ⟨h.left.toArray⟩) := fun wg hh => (HX10.out.grow (HW0.out.trans hh)).at1
    have p2 : ∀ wg, Grow W0 wg → wg.cell? ⟨mb, 2, none⟩ = some (.string ⟨h.name.toArray⟩) := fun wg hh => (HX10.out.grow (HW0.out.trans hh)).at2
    have p3 : ∀ wg, Grow W0 wg → wg.cell? ⟨mb, 3, none⟩ = some (.string ⟨h.right.toArray⟩) := fun wg hh => (HX10.out.grow (HW0.out.trans hh)).at3
    have p4 : ∀ wg, Grow W0 wg → wg.cell? ⟨mb, 4, none⟩ = some (.string ⟨h.f.toArray⟩) := fun wg hh => (HX10.out.grow (HW0.out.trans hh)).at4
    have p5 : ∀ wg, Grow W0 wg → wg.cell? ⟨mb, 5, none⟩ = some (.string ⟨h.g.toArray⟩) := fun wg hh => (HX10.out.grow (HW0.out.trans hh)).at5
    have p6 : ∀ wg, Grow W0 wg → wg.cell? ⟨mb, 6, none⟩ = some (.slice A n c) := fun wg hh => (HX10.out.grow (HW0.out.trans hh)).at6
    clear hW0e
    refine wpR_take growOrd (i := 0) (v := ?vf1) rfl (by kernel_rfl) (by kernel_rfl) (by kernel_rfl) (fun _ _ _ h => h) (by rfl) ?hf1 ?rf1
    case hf1 => (intro wg hSw; go_simp <;> with_reducible rfl)
    simp only [Act.put, List.setIfInBounds_toArray, List.set_cons_zero, List.set_cons_succ]
    refine wpR_take growOrd (i := 1) (v := ?vf2) rfl (by kernel_rfl) (by kernel_rfl) (by kernel_rfl) (fun _ _ _ h => h) (by rfl) ?hf2 ?rf2
    case hf2 => (intro wg hSw; go_simp <;> with_reducible rfl)
    simp only [Act.put, List.setIfInBounds_toArray, List.set_cons_zero, List.set_cons_succ]
    refine wpR_take growOrd (i := 2) (v := ?vf3) rfl (by kernel_rfl) (by kernel_rfl) (by kernel_rfl) (fun _ _ _ h => h) (by rfl) ?hf3 ?rf3
    case hf3 => (intro wg hSw; go_simp <;> with_reducible rfl)
    simp only [Act.put, List.setIfInBounds_toArray, List.set_cons_zero, List.set_cons_succ]
    refine wpR_take growOrd (i := 4) (v := ?vf4) rfl (by kernel_rfl) (by kernel_rfl) (by kernel_rfl) (fun _ _ _ h => h) (by rfl) ?hf4 ?rf4
    case hf4 => (intro wg hSw; go_simp <;> with_reducible rfl)
    simp only [Act.put, List.setIfInBounds_toArray, List.set_cons_zero, List.set_cons_succ]
    refine wpR_one (i := 3) (by kernel_rfl) ?_
    refine wpR_op (i := 3) rfl (by rfl) (fun K hK => ?_)
    go_simp
    refine (HCR.out W0 (HW0.out.trans (Grow.refl W0))).mono ?_
    rintro e wM3 ⟨rfl, hM3⟩
    refine hK.out _ _ hM3 ?_
    clear hK K
    try simp only [Act.put, List.setIfInBounds_toArray, List.set_cons_zero, List.set_cons_succ]
    refine wpR_take growOrd (i := 5) (v := ?vf5) rfl (by kernel_rfl) (by kernel_rfl) (by kernel_rfl) (fun _ _ _ h => h) (by rfl) ?hf5 ?rf5
    case hf5 => (intro wg hSw; go_simp <;> with_reducible rfl)
    simp only [Act.put, List.setIfInBounds_toArray, List.set_cons_zero, List.set_cons_succ]
    refine wpR_take growOrd (i := 6) (v := ?vf6) rfl (by kernel_rfl) (by kernel_rfl) (by kernel_rfl) (fun _ _ _ h => h) (by rfl) ?hf6 ?rf6
    case hf6 => (intro wg hSw; go_simp <;> with_reducible rfl)
    simp only [Act.put, List.setIfInBounds_toArray, List.set_cons_zero, List.set_cons_succ]
    refine wpR_take growOrd (i := 7) (v := ?vf7) rfl (by kernel_rfl) (by kernel_rfl) (by kernel_rfl) (fun _ _ _ h => h) (by rfl) ?hf7 ?rf7
    case hf7 => (intro wg hSw; go_simp <;> with_reducible rfl)
    simp only [Act.put, List.setIfInBounds_toArray, List.set_cons_zero, List.set_cons_succ]
    refine wpR_take growOrd (i := 8) (v := ?vf8) rfl (by kernel_rfl) (by kernel_rfl) (by kernel_rfl) (fun _ _ _ h => h) (by rfl) ?hf8 ?rf8
    case hf8 => (intro wg hSw; go_simp <;> with_reducible rfl)
    simp only [Act.put, List.setIfInBounds_toArray, List.set_cons_zero, List.set_cons_succ]
    refine wpR_take growOrd (i := 9) (v := ?vf9) rfl (by kernel_rfl) (by kernel_rfl) (by kernel_rfl) (fun _ _ _ h => h) (by rfl) ?hf9 ?rf9
    case hf9 => (intro wg hSw; go_simp <;> with_reducible rfl)
    simp only [Act.put, List.setIfInBounds_toArray, List.set_cons_zero, List.set_cons_succ]
    refine wpR_take growOrd (i := 10) (v := ?vf10) rfl (by kernel_rfl) (by kernel_rfl) (by kernel_rfl) (fun _ _ _ h => h) (by rfl) ?hf10 ?rf10
    case hf10 => (intro wg hSw; go_simp <;> with_reducible rfl)
    simp only [Act.put, List.setIfInBounds_toArray, List.set_cons_zero, List.set_cons_succ]
    refine wpR_pass growOrd (i := 11) rfl (by kernel_rfl) (by kernel_rfl) (by kernel_rfl) (fun _ _ _ h => h) (by rfl) ?_
    simp only [Act.put, List.setIfInBounds_toArray, List.set_cons_zero, List.set_cons_succ]
    refine wpR_pass growOrd (i := 12) rfl (by kernel_rfl) (by kernel_rfl) (by kernel_rfl) (fun _ _ _ h => h) (by rfl) ?_
    simp only [Act.put, List.setIfInBounds_toArray, List.set_cons_zero, List.set_cons_succ]
    refine wpR_pass growOrd (i := 13) rfl (by kernel_rfl) (by kernel_rfl) (by kernel_rfl) (fun _ _ _ h => h) (by rfl) ?_
    simp only [Act.put, List.setIfInBounds_toArray, List.set_cons_zero, List.set_cons_succ]
    refine wpR_pass growOrd (i := 14) rfl (by kernel_rfl) (by kernel_rfl) (by kernel_rfl) (fun _ _ _ h => h) (by rfl) ?_
    simp only [Act.put, List.setIfInBounds_toArray, List.set_cons_zero, List.set_cons_succ]
    refine wpR_pass growOrd (i := 15) rfl (by kernel_rfl) (by kernel_rfl) (by kernel_rfl) (fun _ _ _ h => h) (by rfl) ?_
    simp only [Act.put, List.setIfInBounds_toArray, List.set_cons_zero, List.set_cons_succ]
    refine wpR_pass growOrd (i := 16) rfl (by kernel_rfl) (by kernel_rfl) (by kernel_rfl) (fun _ _ _ h => h) (by rfl) ?_
    simp only [Act.put, List.setIfInBounds_toArray, List.set_cons_zero, List.set_cons_succ]
    refine wpR_pass growOrd (i := 17) rfl (by kernel_rfl) (by kernel_rfl) (by kernel_rfl) (fun _ _ _ h => h) (by rfl) ?_
    simp only [Act.put, List.setIfInBounds_toArray, List.set_cons_zero, List.set_cons_succ]
    refine wpR_pass growOrd (i := 18) rfl (by kernel_rfl) (by kernel_rfl) (by kernel_rfl) (fun _ _ _ h => h) (by rfl) ?_
    simp only [Act.put, List.setIfInBounds_toArray, List.set_cons_zero, List.set_cons_succ]
    refine wpR_take growOrd (i := 19) (v := ?vf11) rfl (by kernel_rfl) (by kernel_rfl) (by kernel_rfl) (fun _ _ _ h => h) (by rfl) ?hf11 ?rf11
    case hf11 => (intro wg hSw; go_simp <;> with_reducible rfl)
    simp only [Act.put, List.setIfInBounds_toArray, List.set_cons_zero, List.set_cons_succ]
    refine wpR_take growOrd (i := 20) (v := ?vf12) rfl (by kernel_rfl) (by kernel_rfl) (by kernel_rfl) (fun _ _ _ h => h) (by rfl) ?hf12 ?rf12
    case hf12 => (intro wg hSw; go_simp <;> with_reducible rfl)
    simp only [Act.put, List.setIfInBounds_toArray, List.set_cons_zero, List.set_cons_succ]
    refine wpR_take growOrd (i := 21) (v := ?vf13) rfl (by kernel_rfl) (by kernel_rfl) (by kernel_rfl) (fun _ _ _ h => h) (by rfl) ?hf13 ?rf13
    case hf13 => (intro wg hSw; go_simp <;> with_reducible rfl)
    simp only [Act.put, List.setIfInBounds_toArray, List.set_cons_zero, List.set_cons_succ]
    refine wpR_done (by kernel_rfl) ?_
    have HGT := Lib.hid (HG10.out.trans (HW0.out.trans (Grow.trans (Grow.refl W0) hM3)))
    go_wp2
    go_ret
    exact ⟨rfl, HGT.out⟩
  | true =>
    obtain ⟨T0, hT0⟩ : ∃ T, headD h = T := ⟨_, rfl⟩
    have hT1 : headD { h with res := s } = s ++ [226, 134, 144] ++ T0 := by rw [head_right HRX.out, HTX.out, ← hT0, head_right HRR.out]
    have HT0 := Lib.hid hT0
    have HT1 := Lib.hid hT1
    have hlt0 : T0.length ≤ 800000 := by
      have := head_len HFE.out
      have : h.locs.length * (100 + 1) ≤ 30 * 101 := Nat.mul_le_mul HFL.out (Nat.le_refl _)
      rw [hT0] at *
      omega
    have q1 : ¬ 9223372036854775807 < s.length + 3 := by omega
    have q2 : ¬ 9223372036854775807 < s.length + 3 + T0.length := by omega
    have a1 := str_app s [226, 134, 144]
    have a2 := str_app (s ++ [226, 134, 144]) T0
    have HCX : Hid (∀ W, Grow w10 W → Calls Tryd.prog 14 #[.agg #[.string ⟨s.toArray⟩, .string ⟨h.left.toArray⟩, .string ⟨h.name.toArray⟩, .string ⟨h.right.toArray⟩, .string ⟨h.f.toArray⟩, .string ⟨h.g.toArray⟩, .slice A n c]] W (Gave (s ++ [226, 134, 144] ++ T0) W)) := Lib.hid (fun W hW => text_says HT1.out (HIX10.out.grow hW))
    have HCH : Hid (∀ W, Grow w10 W → Calls Tryd.prog 14 #[.agg #[.string ⟨h.res.toArray⟩, .string ⟨h.left.toArray⟩, .string ⟨h.name.toArray⟩, .string ⟨h.right.toArray⟩, .string ⟨h.f.toArray⟩, .string ⟨h.g.toArray⟩, .slice A n c]] W (Gave T0 W)) := Lib.hid (fun W hW => text_says HT0.out (HI10.out.grow hW))
    clear hT0 hT1 hlt0
    refine wp_region_R Grow (n := 22) rfl (by kernel_rfl) ?_
    intro W0 hW0e hW0
    have HW0 : Hid (Grow w10 W0) := Lib.hid hW0
    have p0 : ∀ wg, Grow W0 wg → wg.cell? ⟨mb, 0, none⟩ = some (.string ⟨s.toArray⟩) := fun wg hh => (HX10.out.grow (HW0.out.trans hh)).at0
    have p1 : ∀ wg, Grow W0 wg → wg.cell? ⟨mb, 1, none⟩ = some (.string ⟨h.left.toArray⟩) := fun wg hh => (HX10.out.grow (HW0.out.trans hh)).at1
    have p2 : ∀ wg, Grow W0 wg → wg.cell? ⟨mb, 2, none⟩ = some (.string ⟨h.name.toArray⟩) := fun wg hh => (HX10.out.grow (HW0.out.trans hh)).at2
    have p3 : ∀ wg, Grow W0 wg → wg.cell? ⟨mb, 3, none⟩ = some (.string ⟨h.right.toArray⟩) := fun wg hh => (HX10.out.grow (HW0.out.trans hh)).at3
    have p4 : ∀ wg, Grow W0 wg → wg.cell? ⟨mb, 4, none⟩ = some (.string ⟨h.f.toArray⟩) := fun wg hh => (HX10.out.grow (HW0.out.trans hh)).at4
    have p5 : ∀ wg, Grow W0 wg → wg.cell? ⟨mb, 5, none⟩ = some (.string ⟨h.g.toArray⟩) := fun wg hh => (HX10.out.grow (HW0.out.trans hh)).at5
    have p6 : ∀ wg, Grow W0 wg → wg.cell? ⟨mb, 6, none⟩ = some (.slice A n c) := fun wg hh => (HX10.out.grow (HW0.out.trans hh)).at6
    clear hW0e
    refine wpR_take growOrd (i := 0) (v := ?vf14) rfl (by kernel_rfl) (by kernel_rfl) (by kernel_rfl) (fun _ _ _ h => h) (by rfl) ?hf14 ?rf14
    case hf14 => (intro wg hSw; go_simp <;> with_reducible rfl)
    simp only [Act.put, List.setIfInBounds_toArray, List.set_cons_zero, List.set_cons_succ]
    refine wpR_take growOrd (i := 1) (v := ?vf15) rfl (by kernel_rfl) (by kernel_rfl) (by kernel_rfl) (fun _ _ _ h => h) (by rfl) ?hf15 ?rf15
    case hf15 => (intro wg hSw; go_simp <;> with_reducible rfl)
    simp only [Act.put, List.setIfInBounds_toArray, List.set_cons_zero, List.set_cons_succ]
    refine wpR_take growOrd (i := 2) (v := ?vf16) rfl (by kernel_rfl) (by kernel_rfl) (by kernel_rfl) (fun _ _ _ h => h) (by rfl) ?hf16 ?rf16
    case hf16 => (intro wg hSw; go_simp <;> with_reducible rfl)
    simp only [Act.put, List.setIfInBounds_toArray, List.set_cons_zero, List.set_cons_succ]
    refine wpR_take growOrd (i := 4) (v := ?vf17) rfl (by kernel_rfl) (by kernel_rfl) (by kernel_rfl) (fun _ _ _ h => h) (by rfl) ?hf17 ?rf17
    case hf17 => (intro wg hSw; go_simp <;> with_reducible rfl)
    simp only [Act.put, List.setIfInBounds_toArray, List.set_cons_zero, List.set_cons_succ]
    refine wpR_one (i := 3) (by kernel_rfl) ?_
    refine wpR_op (i := 3) rfl (by rfl) (fun K hK => ?_)
    go_simp
    refine (HCR.out W0 (HW0.out.trans (Grow.refl W0))).mono ?_
    rintro e wM3 ⟨rfl, hM3⟩
    have HM3 : Hid (Grow w10 wM3) := Lib.hid ((HW0.out.trans (Grow.refl W0)).trans hM3)
    clear p0 p1 p2 p3 p4 p5 p6
    have p0 : ∀ wg, Grow wM3 wg → wg.cell? ⟨mb, 0, none⟩ = some (.string ⟨s.toArray⟩) := fun wg hh => (HX10.out.grow (HM3.out.trans hh)).at0
    have p1 : ∀ wg, Grow wM3 wg → wg.cell? ⟨mb, 1, none⟩ = some (.string ⟨h.left.toArray⟩) := fun wg hh => (HX10.out.grow (HM3.out.trans hh)).at1
    have p2 : ∀ wg, Grow wM3 wg → wg.cell? ⟨mb, 2, none⟩ = some (.string ⟨h.name.toArray⟩) := fun wg hh => (HX10.out.grow (HM3.out.trans hh)).at2
    have p3 : ∀ wg, Grow wM3 wg → wg.cell? ⟨mb, 3, none⟩ = some (.string ⟨h.right.toArray⟩) := fun wg hh => (HX10.out.grow (HM3.out.trans hh)).at3
    have p4 : ∀ wg, Grow wM3 wg → wg.cell? ⟨mb, 4, none⟩ = some (.string ⟨h.f.toArray⟩) := fun wg hh => (HX10.out.grow (HM3.out.trans hh)).at4
    have p5 : ∀ wg, Grow wM3 wg → wg.cell? ⟨mb, 5, none⟩ = some (.string ⟨h.g.toArray⟩) := fun wg hh => (HX10.out.grow (HM3.out.trans hh)).at5
    have p6 : ∀ wg, Grow wM3 wg → wg.cell? ⟨mb, 6, none⟩ = some (.slice A n c) := fun wg hh => (HX10.out.grow (HM3.out.trans hh)).at6
    have r0 : ∀ wg, Grow wM3 wg → wg.cell? ⟨nb, 0, none⟩ = some (.string ⟨h.res.toArray⟩) := fun wg hh => (HB10.out.grow (HM3.out.trans hh)).at0
    have r1 : ∀ wg, Grow wM3 wg → wg.cell? ⟨nb, 1, none⟩ = some (.string ⟨h.left.toArray⟩) := fun wg hh => (HB10.out.grow (HM3.out.trans hh)).at1
    have r2 : ∀ wg, Grow wM3 wg → wg.cell? ⟨nb, 2, none⟩ = some (.string ⟨h.name.toArray⟩) := fun wg hh => (HB10.out.grow (HM3.out.trans hh)).at2
    have r3 : ∀ wg, Grow wM3 wg → wg.cell? ⟨nb, 3, none⟩ = some (.string ⟨h.right.toArray⟩) := fun wg hh => (HB10.out.grow (HM3.out.trans hh)).at3
    have r4 : ∀ wg, Grow wM3 wg → wg.cell? ⟨nb, 4, none⟩ = some (.string ⟨h.f.toArray⟩) := fun wg hh => (HB10.out.grow (HM3.out.trans hh)).at4
    have r5 : ∀ wg, Grow wM3 wg → wg.cell? ⟨nb, 5, none⟩ = some (.string ⟨h.g.toArray⟩) := fun wg hh => (HB10.out.grow (HM3.out.trans hh)).at5
    have r6 : ∀ wg, Grow wM3 wg → wg.cell? ⟨nb, 6, none⟩ = some (.slice A n c) := fun wg hh => (HB10.out.grow (HM3.out.trans hh)).at6
    refine hK.out _ _ hM3 ?_
    clear hK K
    try simp only [Act.put, List.setIfInBounds_toArray, List.set_cons_zero, List.set_cons_succ]
    refine wpR_take growOrd (i := 5) (v := ?vf18) rfl (by kernel_rfl) (by kernel_rfl) (by kernel_rfl) (fun _ _ _ h => h) (by rfl) ?hf18 ?rf18
    case hf18 => (intro wg hSw; go_simp <;> with_reducible rfl)
    simp only [Act.put, List.setIfInBounds_toArray, List.set_cons_zero, List.set_cons_succ]
    refine wpR_take growOrd (i := 6) (v := ?vf19) rfl (by kernel_rfl) (by kernel_rfl) (by kernel_rfl) (fun _ _ _ h => h) (by rfl) ?hf19 ?rf19
    case hf19 => (intro wg hSw; go_simp <;> with_reducible rfl)
    simp only [Act.put, List.setIfInBounds_toArray, List.set_cons_zero, List.set_cons_succ]
    refine wpR_take growOrd (i := 7) (v := ?vf20) rfl (by kernel_rfl) (by kernel_rfl) (by kernel_rfl) (fun _ _ _ h => h) (by rfl) ?hf20 ?rf20
    case hf20 => (intro wg hSw; go_simp <;> with_reducible rfl)
    simp only [Act.put, List.setIfInBounds_toArray, List.set_cons_zero, List.set_cons_succ]
    refine wpR_take growOrd (i := 8) (v := ?vf21) rfl (by kernel_rfl) (by kernel_rfl) (by kernel_rfl) (fun _ _ _ h => h) (by rfl) ?hf21 ?rf21
    case hf21 => (intro wg hSw; go_simp <;> with_reducible rfl)
    simp only [Act.put, List.setIfInBounds_toArray, List.set_cons_zero, List.set_cons_succ]
    refine wpR_take growOrd (i := 9) (v := ?vf22) rfl (by kernel_rfl) (by kernel_rfl) (by kernel_rfl) (fun _ _ _ h => h) (by rfl) ?hf22 ?rf22
    case hf22 => (intro wg hSw; go_simp <;> with_reducible rfl)
    simp only [Act.put, List.setIfInBounds_toArray, List.set_cons_zero, List.set_cons_succ]
    refine wpR_take growOrd (i := 10) (v := ?vf23) rfl (by kernel_rfl) (by kernel_rfl) (by kernel_rfl) (fun _ _ _ h => h) (by rfl) ?hf23 ?rf23
    case hf23 => (intro wg hSw; go_simp <;> with_reducible rfl)
    simp only [Act.put, List.setIfInBounds_toArray, List.set_cons_zero, List.set_cons_succ]
    refine wpR_take growOrd (i := 11) (v := ?vf24) rfl (by kernel_rfl) (by kernel_rfl) (by kernel_rfl) (fun _ _ _ h => h) (by rfl) ?hf24 ?rf24
    case hf24 => (intro wg hSw; go_simp <;> with_reducible rfl)
    simp only [Act.put, List.setIfInBounds_toArray, List.set_cons_zero, List.set_cons_succ]
    refine wpR_take growOrd (i := 13) (v := ?vf25) rfl (by kernel_rfl) (by kernel_rfl) (by kernel_rfl) (fun _ _ _ h => h) (by rfl) ?hf25 ?rf25
    case hf25 => (intro wg hSw; go_simp <;> with_reducible rfl)
    simp only [Act.put, List.setIfInBounds_toArray, List.set_cons_zero, List.set_cons_succ]
    refine wpR_take growOrd (i := 14) (v := ?vf26) rfl (by kernel_rfl) (by kernel_rfl) (by kernel_rfl) (fun _ _ _ h => h) (by rfl) ?hf26 ?rf26
    case hf26 => (intro wg hSw; go_simp <;> with_reducible rfl)
    simp only [Act.put, List.setIfInBounds_toArray, List.set_cons_zero, List.set_cons_succ]
    refine wpR_take growOrd (i := 15) (v := ?vf27) rfl (by kernel_rfl) (by kernel_rfl) (by kernel_rfl) (fun _ _ _ h => h) (by rfl) ?hf27 ?rf27
    case hf27 => (intro wg hSw; go_simp <;> with_reducible rfl)
    simp only [Act.put, List.setIfInBounds_toArray, List.set_cons_zero, List.set_cons_succ]
    refine wpR_one (i := 12) (by kernel_rfl) ?_
    refine wpR_op (i := 12) rfl (by rfl) (fun K hK => ?_)
    go_simp
    refine (HCX.out wM3 (HW0.out.trans (Grow.trans (Grow.refl W0) hM3))).mono ?_
    rintro e wM12 ⟨rfl, hM12⟩
    refine hK.out _ _ hM12 ?_
    clear hK K
    try simp only [Act.put, List.setIfInBounds_toArray, List.set_cons_zero, List.set_cons_succ]
    refine wpR_one (i := 16) (by kernel_rfl) ?_
    refine wpR_op (i := 16) rfl (by rfl) (fun K hK => ?_)
    go_simp
    refine (HCH.out wM12 (HW0.out.trans (Grow.trans (Grow.trans (Grow.refl W0) hM3) hM12))).mono ?_
    rintro e wM16 ⟨rfl, hM16⟩
    refine hK.out _ _ hM16 ?_
    clear hK K
    try simp only [Act.put, List.setIfInBounds_toArray, List.set_cons_zero, List.set_cons_succ]
    refine wpR_take growOrd (i := 17) (v := ?vf28) rfl (by kernel_rfl) (by kernel_rfl) (by kernel_rfl) (fun _ _ _ h => h) (by rfl) ?hf28 ?rf28
    case hf28 => (intro wg hSw; go_simp <;> with_reducible rfl)
    simp only [Act.put, List.setIfInBounds_toArray, List.set_cons_zero, List.set_cons_succ]
    refine wpR_take growOrd (i := 18) (v := ?vf29) rfl (by kernel_rfl) (by kernel_rfl) (by kernel_rfl) (fun _ _ _ h => h) (by rfl) ?hf29 ?rf29
    case hf29 => (intro wg hSw; go_simp <;> with_reducible rfl)
    simp only [Act.put, List.setIfInBounds_toArray, List.set_cons_zero, List.set_cons_succ]
    refine wpR_take growOrd (i := 19) (v := ?vf30) rfl (by kernel_rfl) (by kernel_rfl) (by kernel_rfl) (fun _ _ _ h => h) (by rfl) ?hf30 ?rf30
    case hf30 => (intro wg hSw; go_simp <;> with_reducible rfl)
    simp only [Act.put, List.setIfInBounds_toArray, List.set_cons_zero, List.set_cons_succ]
    refine wpR_take growOrd (i := 20) (v := ?vf31) rfl (by kernel_rfl) (by kernel_rfl) (by kernel_rfl) (fun _ _ _ h => h) (by rfl) ?hf31 ?rf31
    case hf31 => (intro wg hSw; go_simp <;> with_reducible rfl)
    simp only [Act.put, List.setIfInBounds_toArray, List.set_cons_zero, List.set_cons_succ]
    refine wpR_take growOrd (i := 21) (v := ?vf32) rfl (by kernel_rfl) (by kernel_rfl) (by kernel_rfl) (fun _ _ _ h => h) (by rfl) ?hf32 ?rf32
    case hf32 => (intro wg hSw; go_simp <;> with_reducible rfl)
    simp only [Act.put, List.setIfInBounds_toArray, List.set_cons_zero, List.set_cons_succ]
    refine wpR_done (by kernel_rfl) ?_
    have HGT := Lib.hid (HG10.out.trans (HW0.out.trans (Grow.trans (Grow.trans (Grow.trans (Grow.refl W0) hM3) hM12) hM16)))
    go_wp2
    go_ret
    exact ⟨rfl, HGT.out⟩
end Go.Proofs.YtibcnekkmnicbaaDoor
