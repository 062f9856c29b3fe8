/-
  What header.Right comes to, called with any head. Nothing is claimed here by itself.
-/
import Derived.Test.YtcnijmmpkahoaaaDoorAlls
import Derived.Test.YtcnijmmpkahoaaaDoorConcats
namespace Go.Proofs.YtcnijmmpkahoaaaDoor
open Go.RowKit Go.Lib
set_option linter.unusedSimpArgs false
set_option linter.unusedVariables false
set_option maxRecDepth 10000

theorem rows3 (W : World) {A1 A2 A3 : Option Addr} {l1 l2 l3 c1 c2 c3 : Nat} {k1 k2 k3 : List (List UInt8)} (h1 : Strs W W.heap.size A1 k1) (h2 : Strs W W.heap.size A2 k2) (h3 : Strs W W.heap.size A3 k3)
    (e1 : k1.length = l1) (e2 : k2.length = l2) (e3 : k3.length = l3) (n1 : A1 = none → c1 = 0) (n2 : A2 = none → c2 = 0) (n3 : A3 = none → c3 = 0) :
    RowsAt (W.alloc (.cells #[.slice A1 l1 c1, .slice A2 l2 c2, .slice A3 l3 c3] 22)) (W.alloc (.cells #[.slice A1 l1 c1, .slice A2 l2 c2, .slice A3 l3 c3] 22)).heap.size (some ⟨W.heap.size, 0, none⟩) [k1, k2, k3] := fun _ => by
  subst e1 e2 e3
  have hg := grow_new W (.cells #[.slice A1 k1.length c1, .slice A2 k2.length c2, .slice A3 k3.length c3] 22)
  have hb := heap_alloc_new W (.cells #[.slice A1 k1.length c1, .slice A2 k2.length c2, .slice A3 k3.length c3] 22)
  refine ⟨W.heap.size, 0, rfl, heap_lt hb, fun i hi => ?_⟩
  match i, hi with
  | 0, _ => exact ⟨A1, c1, cell_of_row _ _ 0 _ _ (0, 0) hb, n1, h1.grow hg⟩
  | 1, _ => exact ⟨A2, c2, cell_of_row _ _ 1 _ _ (0, 0) hb, n2, h2.grow hg⟩
  | 2, _ => exact ⟨A3, c3, cell_of_row _ _ 2 _ _ (0, 0) hb, n3, h3.grow hg⟩
  | i + 3, hi => simp at hi; omega

theorem right_says' {l : List UInt8} {b : Bool} (h : rightD l = b) (w : World) (hl : l.length ≤ 1100000) : Calls Tryd.prog 24 #[.string ⟨l.toArray⟩] w (Says b w) := right_says h w hl

theorem right_wrong1 {h : Hd} (e : rightD h.name = false) : rightH h = false := by unfold rightH; rw [e]; rfl
theorem right_wrong2 {h : Hd} (e : (mayH h).all mayD = false) : rightH h = false := by unfold rightH; rw [e]; simp
theorem right_wrong3 {h : Hd} (e : h.locs.all rightD = false) : rightH h = false := by unfold rightH; rw [e]; simp
theorem right_wrong4 {h : Hd} (e : unlB (allH h) = false) : rightH h = false := by unfold rightH; rw [e]; simp
theorem right_last {h : Hd} {br bl bf bg : Bool} (e1 : rightD h.name = true) (e2 : (mayH h).all mayD = true) (e3 : h.locs.all rightD = true) (e4 : unlB (allH h) = true) (er : h.right.isEmpty = br) (el : h.left.isEmpty = bl) (ef : h.f.isEmpty = bf) (eg : h.g.isEmpty = bg) :
    rightH h = (!(br && (!bl || !bf)) && !(bf && !bg)) := by
  unfold rightH shapeR shapeG
  rw [e1, e2, e3, e4, er, el, ef, eg]
  rfl
theorem emp_eq (l : List UInt8) : (l == []) = l.isEmpty := by cases l <;> rfl

set_option maxHeartbeats 6400000 in
theorem pright_any (h : Hd) (A : Option Addr) (n c : Nat) (w : World) (k : HdIn w A n c h) :
    Calls Tryd.prog 28 #[hdV h A n c] w (Says (rightH h) w) := by
  obtain ⟨l1, l2, l3, l4, l5, l6, l7⟩ := k.parts
  have htop := k.top
  have K := Lib.hid k
  have HBX := Lib.hid (boxH_new w h A n c)
  have HG1 := Lib.hid (grow_new w (.cells #[.string ⟨h.res.toArray⟩, .string ⟨h.left.toArray⟩, .string ⟨h.name.toArray⟩, .string ⟨h.right.toArray⟩, .string ⟨h.f.toArray⟩, .string ⟨h.g.toArray⟩, .slice A n c] 33))
  obtain ⟨nb, hnb⟩ : ∃ nb, w.heap.size = nb := ⟨_, rfl⟩
  have HNB := Lib.hid hnb
  rw [hnb] at HBX
  unfold hdV strv
  clear k hnb
  go_enter Tryd.func28, Tryd.ntmps28
  go_upto_region 1 with fail
  rw [HNB.out]
  generalize w.alloc (.cells #[.string ⟨h.res.toArray⟩, .string ⟨h.left.toArray⟩, .string ⟨h.name.toArray⟩, .string ⟨h.right.toArray⟩, .string ⟨h.f.toArray⟩, .string ⟨h.g.toArray⟩, .slice A n c] 33) = w1 at HBX HG1 ⊢
  have b0 := HBX.out.at0
  have b1 := HBX.out.at1
  have b2 := HBX.out.at2
  have b3 := HBX.out.at3
  have b4 := HBX.out.at4
  have b5 := HBX.out.at5
  have b6 := HBX.out.at6
  have HM2 := Lib.hid (strs_lit w1 (mayH h))
  have HG2 := Lib.hid (HG1.out.trans (grow_new w1 (.cells ((mayH h).map strv).toArray 9)))
  have HB2 := Lib.hid (HBX.out.grow (grow_new w1 (.cells ((mayH h).map strv).toArray 9)))
  have HW2 := Lib.hid (show w1.alloc (.cells ((mayH h).map strv).toArray 9) = w1.alloc (.cells #[.string ⟨h.res.toArray⟩, .string ⟨h.left.toArray⟩, .string ⟨h.right.toArray⟩, .string ⟨h.f.toArray⟩, .string ⟨h.g.toArray⟩] 9) from rfl)
  rw [HW2.out] at HM2 HG2 HB2
  clear HW2
  go_upto_region 2 with fail
  obtain ⟨mb, hmb⟩ : ∃ mb, w1.heap.size = mb := ⟨_, rfl⟩
  have HMB := Lib.hid hmb
  rw [hmb] at HM2 ⊢
  clear hmb
  generalize w1.alloc (.cells #[.string ⟨h.res.toArray⟩, .string ⟨h.left.toArray⟩, .string ⟨h.right.toArray⟩, .string ⟨h.f.toArray⟩, .string ⟨h.g.toArray⟩] 9) = w2 at HM2 HG2 HB2 ⊢
  clear b0 b1 b2 b3 b4 b5 b6 HBX HG1
  have b2 := HB2.out.at2
  obtain ⟨α, hα⟩ : ∃ α, rightD h.name = α := ⟨_, rfl⟩
  have HC1 := Lib.hid (right_says hα w2 l3)
  have HA1 := Lib.hid hα
  clear hα
  cases α with
  | false =>
    have HF := Lib.hid (right_wrong1 HA1.out)
    go_wp2_with fail
    refine (HC1.out).mono ?_
    rintro e w3 ⟨rfl, hg⟩
    have HG3 := Lib.hid (HG2.out.trans hg)
    clear hg b2
    go_wp2
    go_ret
    exact ⟨by rw [HF.out]; rfl, HG3.out⟩
  | true =>
    go_wp2_with fail
    refine (HC1.out).mono ?_
    rintro e w3 ⟨rfl, hg⟩
    have HG3 := Lib.hid (HG2.out.trans hg)
    have HB3 := Lib.hid (HB2.out.grow hg)
    have HM3 := Lib.hid (HM2.out.grow hg)
    clear hg b2 HC1
    have lm : ∀ s ∈ mayH h, s.length ≤ 1100000 := by
      intro s hs
      simp only [mayH, List.mem_cons, List.not_mem_nil, or_false] at hs
      rcases hs with rfl | rfl | rfl | rfl | rfl <;> assumption
    have HC2 := Lib.hid (all_may (some ⟨mb, 0, none⟩) 5 5 (mayH h) w3 rfl (by decide) HM3.out lm)
    obtain ⟨β, hβ⟩ : ∃ β, (mayH h).all mayD = β := ⟨_, rfl⟩
    rw [hβ] at HC2
    have HA2 := Lib.hid hβ
    have LM := Lib.hid lm
    clear hβ lm
    cases β with
    | false =>
      have HF := Lib.hid (right_wrong2 HA2.out)
      go_wp2_with fail
      refine (HC2.out).mono ?_
      rintro e w4 ⟨rfl, hg⟩
      have HG4 := Lib.hid (HG3.out.trans hg)
      clear hg
      go_wp2
      go_ret
      exact ⟨by rw [HF.out]; rfl, HG4.out⟩
    | true =>
      go_wp2_with fail
      refine (HC2.out).mono ?_
      rintro e w4 ⟨rfl, hg⟩
      have HG4 := Lib.hid (HG3.out.trans hg)
      have HB4 := Lib.hid (HB3.out.grow hg)
      have HM4 := Lib.hid (HM3.out.grow hg)
      clear hg HC2
      have b6 := HB4.out.at6
      have HC3 := Lib.hid (all_name A n c h.locs w4 K.out.len (by omega) (K.out.strs.grow HG4.out) l7)
      obtain ⟨γ, hγ⟩ : ∃ γ, h.locs.all rightD = γ := ⟨_, rfl⟩
      rw [hγ] at HC3
      have HA3 := Lib.hid hγ
      clear hγ
      cases γ with
      | false =>
        have HF := Lib.hid (right_wrong3 HA3.out)
        go_wp2_with fail
        refine (HC3.out).mono ?_
        rintro e w5 ⟨rfl, hg⟩
        have HG5 := Lib.hid (HG4.out.trans hg)
        clear hg
        go_wp2
        go_ret
        exact ⟨by rw [HF.out]; rfl, HG5.out⟩
      | true =>
        go_wp2_with fail
        refine (HC3.out).mono ?_
        rintro e w5 ⟨rfl, hg⟩
        have HG5 := Lib.hid (HG4.out.trans hg)
        have HB5 := Lib.hid (HB4.out.grow hg)
        have HM5 := Lib.hid (HM4.out.grow hg)
        clear hg HC3 b6
        have L7 := Lib.hid l7
        clear l7
        go_upto_region 4 with fail
        have c2 := HB5.out.at2
        have c6 := HB5.out.at6
        have hg6 := grow_new w5 (.cells #[.string ⟨h.name.toArray⟩] 9)
        have HS6 := Lib.hid (strs_lit w5 [h.name])
        have HW6 := Lib.hid (show w5.alloc (.cells ([h.name].map strv).toArray 9) = w5.alloc (.cells #[.string ⟨h.name.toArray⟩] 9) from rfl)
        rw [HW6.out] at HS6
        clear HW6
        have HB6 := Lib.hid (HB5.out.grow hg6)
        have hr6 := (rows3 (w5.alloc (.cells #[.string ⟨h.name.toArray⟩] 9)) (l1 := 1) (c1 := 1) (l2 := 5) (c2 := 5) (l3 := n) (c3 := c) HS6.out (HM5.out.grow hg6) (K.out.strs.grow (HG5.out.trans hg6)) rfl rfl K.out.len (fun e => by cases e) (fun e => by cases e) K.out.none)
        rw [show (w5.alloc (.cells #[.string ⟨h.name.toArray⟩] 9)).heap.size = w5.heap.size + 1 from by simp] at hr6
        have HR6 := Lib.hid hr6
        clear hr6
        have d6 := HB6.out.at6
        have hg7 := grow_new (w5.alloc (.cells #[.string ⟨h.name.toArray⟩] 9)) (.cells #[.slice (some ⟨w5.heap.size, 0, none⟩) 1 1, .slice (some ⟨mb, 0, none⟩) 5 5, .slice A n c] 22)
        have HG7 := Lib.hid ((HG5.out.trans hg6).trans hg7)
        have HB7 := Lib.hid (HB6.out.grow hg7)
        have hfl : flatK [[h.name], mayH h, h.locs] = [h.name] ++ (mayH h ++ h.locs) := by simp [flatK]
        have hfn : ([h.name] ++ (mayH h ++ h.locs)).length = n + 6 := by
          rw [List.length_append, List.length_append, K.out.len]
          show 1 + (5 + n) = n + 6
          omega
        have HC4 := Lib.hid (concat_any _ 3 3 _ _ rfl (by decide) (by rw [hfl, hfn]; omega) HR6.out)
        have HFL := Lib.hid hfl
        have HLN := Lib.hid hfn
        clear hg6 hg7 hfl hfn HS6 HR6
        go_wp2_with fail
        refine (HC4.out).mono ?_
        rintro e w8 ⟨v, rfl, hg8, hown⟩
        rw [HFL.out] at hown
        obtain ⟨A8, c8, rfl, hS8⟩ := hown.strs
        rw [HLN.out]
        have HG8 := Lib.hid (HG7.out.trans hg8)
        have HB8 := Lib.hid (HB7.out.grow hg8)
        obtain ⟨δ, hδ⟩ : ∃ δ, unlB (allH h) = δ := ⟨_, rfl⟩
        have HC5 := Lib.hid (unlike_says (b := δ) (c := c8) ((unl_prog h).trans hδ) w8 HLN.out (by omega) hS8 (by
          intro s hs
          have : s.length ≤ 1100000 := by
            rcases List.mem_append.1 hs with hs | hs
            · have : s = h.name := by simpa using hs
              rw [this]; exact l3
            · rcases List.mem_append.1 hs with hs | hs
              · exact LM.out s hs
              · exact L7.out s hs
          omega))
        have HA4 := Lib.hid hδ
        clear hδ hS8 hown hg8 HC4 HB7 HB6 HB5 HB4 HB3 HM5 HM4 HM3 c2 c6 d6
        cases δ with
        | false =>
          have HF := Lib.hid (right_wrong4 HA4.out)
          go_wp2_with fail
          refine (HC5.out).mono ?_
          rintro e w9 ⟨rfl, hg⟩
          have HG9 := Lib.hid (HG8.out.trans hg)
          clear hg
          go_wp2
          go_ret
          exact ⟨by rw [HF.out]; rfl, HG9.out⟩
        | true =>
          go_wp2_with fail
          refine (HC5.out).mono ?_
          rintro e w9 ⟨rfl, hg⟩
          have HG9 := Lib.hid (HG8.out.trans hg)
          have HB9 := Lib.hid (HB8.out.grow hg)
          clear hg HC5
          have e1 := HB9.out.at1
          have e3 := HB9.out.at3
          have e4 := HB9.out.at4
          have e5 := HB9.out.at5
          obtain ⟨br, hbr⟩ : ∃ br, h.right.isEmpty = br := ⟨_, rfl⟩
          obtain ⟨bl, hbl⟩ : ∃ bl, h.left.isEmpty = bl := ⟨_, rfl⟩
          obtain ⟨bf, hbf⟩ : ∃ bf, h.f.isEmpty = bf := ⟨_, rfl⟩
          obtain ⟨bg, hbg⟩ : ∃ bg, h.g.isEmpty = bg := ⟨_, rfl⟩
          have HF := Lib.hid (right_last HA1.out HA2.out HA3.out HA4.out hbr hbl hbf hbg)
          have t1 := (emp_eq h.right).trans hbr
          have t2 := (emp_eq h.left).trans hbl
          have t3 := (emp_eq h.f).trans hbf
          have t4 := (emp_eq h.g).trans hbg
          clear hbr hbl hbf hbg HB9 HB8
          generalize h.right = xr at *
          generalize h.left = xl at *
          generalize h.f = xf at *
          generalize h.g = xg at *
          cases br <;> cases bl <;> cases bf <;> cases bg <;>
          · go_wp2
            go_ret
            exact ⟨by rw [HF.out]; rfl, HG9.out⟩
end Go.Proofs.YtcnijmmpkahoaaaDoor
