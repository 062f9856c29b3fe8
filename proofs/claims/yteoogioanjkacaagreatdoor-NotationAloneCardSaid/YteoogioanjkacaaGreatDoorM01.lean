/-
  Contracts, joined: TightA, NoteLaws, LAlone. Nothing is claimed here by itself.
-/
import Derived.Test.YteoogioanjkacaaGreatDoorK11
section
namespace Go.Proofs.YteoogioanjkacaaGreatDoor
set_option maxRecDepth 20000
set_option linter.unusedVariables false
set_option linter.unusedSimpArgs false
end Go.Proofs.YteoogioanjkacaaGreatDoor
end
section
namespace Go.Proofs.YteoogioanjkacaaGreatDoor
set_option linter.unusedVariables false
set_option linter.unusedSimpArgs false
end Go.Proofs.YteoogioanjkacaaGreatDoor
end
section
namespace Go.Proofs.YteoogioanjkacaaGreatDoor
set_option linter.unusedVariables false
set_option linter.unusedSimpArgs false
/-- one node alone -/
theorem alone_right {n m : Nd} (h : OkOne n m) : rightA [m] = true ∧ formA [m] = [m] ∧ (ws [m]).i = cnt m.shp := by
  obtain ⟨h1, h2, h3, h4, h5, h6⟩ := h
  have hkc : kc m = 0 := by simp [kc, h3]
  have hp : par 16 [m] = some (top m st0) := par_mk h1 (by rw [hkc]; rfl)
  have hc := cnt_le1 m.shp
  have hw : whlD [m] = some (top m st0) := whl_mk hp (by show 0 + cnt m.shp ≤ 1048576; omega) rfl
  refine ⟨by unfold rightA; rw [hw]; rfl, ?_, by rw [ws_some hw]; show 0 + cnt m.shp = _; omega⟩
  show formF 16 [m] = [m]
  rw [formF_cons, hkc, catF_zero]
  unfold clos
  rw [h6]
end Go.Proofs.YteoogioanjkacaaGreatDoor
end
namespace Go.Proofs.YteoogioanjkacaaGreatDoor
set_option linter.unusedVariables false
set_option linter.unusedSimpArgs false
set_option maxRecDepth 10000
theorem note_leaf {a : List Nd} (hr : rightA a = true) (hk : (a.getD 0 nd0).kind ≠ 5) : noteA a = headT (a.getD 0 nd0) ++ leafT (a.getD 0 nd0) := by
  obtain ⟨s, hs⟩ := right_some hr
  obtain ⟨n, l', t, rfl, hok, ht, rfl, hn, hi⟩ := right_parts hs
  have hk' : n.kind ≠ 5 := hk
  show noteF 16 (n :: l') = headT n ++ leafT n
  rw [noteF_cons]
  unfold headT
  simp only [if_neg hk']

theorem one_tight {m : Nd} (h : OkOne m m) : rightA [m] = true ∧ formA [m] = [m] := ⟨(alone_right h).1, (alone_right h).2.1⟩
theorem one_fine {m : Nd} (h : OkOne m m) : Fine [m] := ⟨by simp, fun n hn => by rw [List.mem_singleton.1 hn]; exact h.2.2.2.1, fun n hn => by rw [List.mem_singleton.1 hn]; exact h.2.2.2.2.1⟩
theorem one_note {m : Nd} (h : OkOne m m) : noteA [m] = headT m ++ leafT m := note_leaf (one_tight h).1 h.2.2.1
theorem one_back {m : Nd} (h : OkOne m m) : parseN (headT m ++ leafT m) = some [m] := by
  rw [← one_note h]
  exact parse_back (one_tight h).1 (one_fine h) (one_tight h).2
/-- a node of signs -/
theorem chars_one {s xs : List Int} (hs : rightB s = true) (hc : cnt s = xs.length) (hx : xs.all signB = true) (hl : xs.length ≤ 1100000) : OkOne ⟨3, s, xs, []⟩ ⟨3, s, xs, []⟩ := by
  have hsl := (right_iff.1 hs).1
  have hin : ∀ x ∈ xs, In x := fun x h => in_sign (List.all_eq_true.1 hx x h)
  refine ⟨?_, rfl, by simp, ⟨in3, by show s.length ≤ _; omega, hl, by simp, fun x h => by cases h⟩, hin, by simp [foldO]⟩
  unfold okB fillB
  simp [hs, hc, hx]
theorem chars_head {s xs : List Int} : headT ⟨3, s, xs, []⟩ = if s = [] then [] else shpT s := by unfold headT; simp
theorem chars_leaf {s xs : List Int} : leafT ⟨3, s, xs, []⟩ = Quo.textQ xs := by unfold leafT; simp
/-- a node of numbers -/
theorem nums_one {s : List Int} {l : List (Int × Int)} (hs : rightB s = true) (hc : cnt s = l.length) (hd : l.all decB = true) (hi : ∀ x ∈ l, In x.1 ∧ In x.2) (hl : l.length ≤ 1100000) : OkOne (leastN s l) (leastN s l) := by
  have h := least_one (n := ⟨2, s, [], []⟩) hs hc hd hi hl
  exact ⟨h.1, rfl, h.2.2.1, h.2.2.2.1, h.2.2.2.2.1, h.2.2.2.2.2⟩
theorem kindI_not (xs : List Int) : kindI xs ≠ 3 ∧ kindI xs ≠ 4 ∧ kindI xs ≠ 5 := by
  rcases (kindI_is xs).1 with h | h <;> rw [h] <;> decide
/-- whole numbers behind a shape that counts them -/
theorem ints_note {s xs : List Int} (h0 : xs ≠ []) : headT ⟨kindI xs, s, xs, []⟩ ++ leafT ⟨kindI xs, s, xs, []⟩ = (if s = [] then [] else shpT s) ++ Num.intsT xs := by
  obtain ⟨k3, k4, k5⟩ := kindI_not xs
  have e1 : headT ⟨kindI xs, s, xs, []⟩ = if s = [] then [] else shpT s := by
    unfold headT
    dsimp only
    rw [if_neg k5]
  have e2 : leafT ⟨kindI xs, s, xs, []⟩ = Num.intsT xs := by
    unfold leafT numsT
    dsimp only
    rw [if_neg k3, if_neg (by rintro ⟨_, _, h, _⟩; exact h0 h), if_neg k4]
  rw [e1, e2]
theorem decs_note {s : List Int} {ds : List (Int × Int)} (h : ds.all whlB = false) : headT (leastN s ds) ++ leafT (leastN s ds) = (if s = [] then [] else shpT s) ++ Num.decsT ds := by
  have e : leastN s ds = ⟨4, s, [], ds⟩ := by unfold leastN; rw [h]; rfl
  rw [e]
  unfold headT leafT numsT
  simp
end Go.Proofs.YteoogioanjkacaaGreatDoor
namespace Go.Proofs.YteoogioanjkacaaGreatDoor
set_option maxRecDepth 20000
open Go.RowKit Go.Lib
set_option linter.unusedSimpArgs false
set_option linter.unusedVariables false
/-- a sign alone is read of its quotes; what is no sign has none -/
theorem sign_parse (c : Int) : parseN (Quo.textQ [c]) = if Quo.signZ c = true then some [⟨3, [], [c], []⟩] else none := by
  by_cases h : Quo.signZ c = true
  · rw [if_pos h]
    have h1 := one_back (chars_one (s := []) (xs := [c]) (by decide) (by show cnt [] = 1; decide) (by simpa [signB_Z] using h) (by show 1 ≤ 1100000; decide))
    rw [chars_head, chars_leaf, if_pos rfl] at h1
    exact h1
  · rw [if_neg h]
    have : Quo.textQ [c] = [] := by
      unfold Quo.textQ
      rw [if_neg (by simpa using h)]
    rw [this, empty_none]
theorem sign_len (c : Int) : (Quo.textQ [c]).length ≤ 100000 := by
  by_cases h : Quo.signZ c = true
  · rw [quoteT (by simpa using h)]
    have := Quo.qT_le (Quo.natsZ [c])
    rw [Quo.nats_len] at this
    simp only [List.length_cons, List.length_append, List.length_nil] at *
    omega
  · have : Quo.textQ [c] = [] := by
      unfold Quo.textQ
      rw [if_neg (by simpa using h)]
    rw [this]
    decide
/-- what stands of a number alone -/
def aloneT (d : Int × Int) : List UInt8 := if whlB d = true then Num.intsT [whlV d] else Num.decsT [d]
theorem alone_all {d : Int × Int} (hd : decB d = true) (hi : In d.1 ∧ In d.2) : parseN (aloneT d) = some [leastN [] [d]] ∧ noteT [leastN [] [d]] = aloneT d ∧ Fine [leastN [] [d]] ∧ Slim [leastN [] [d]] ∧ (aloneT d).length ≤ 100000 := by
  have h1 : OkOne (leastN [] [d]) (leastN [] [d]) := nums_one (by decide) (by show cnt [] = 1; decide) (by simpa using hd) (fun x hx => by rw [List.mem_singleton.1 hx]; exact hi) (by simp)
  have e : headT (leastN [] [d]) ++ leafT (leastN [] [d]) = aloneT d := by
    unfold aloneT
    by_cases hw : whlB d = true
    · rw [if_pos hw]
      have : leastN [] [d] = ⟨kindI [whlV d], [], [whlV d], []⟩ := by unfold leastN; rw [if_pos (by simpa using hw)]; rfl
      rw [this]
      have h2 := ints_note (s := []) (xs := [whlV d]) (by simp)
      rw [if_pos rfl] at h2
      exact h2
    · rw [if_neg hw]
      have h2 := decs_note (s := []) (ds := [d]) (by simpa using hw)
      rw [if_pos rfl] at h2
      exact h2
  obtain ⟨t1, t2⟩ := one_tight h1
  refine ⟨by rw [← e]; exact one_back h1, ?_, one_fine h1, fun n hn => ?_, ?_⟩
  · unfold noteT
    rw [if_pos ⟨t1, t2⟩, one_note h1, e]
  · rw [List.mem_singleton.1 hn]
    exact least_slim (by simp)
  · unfold aloneT
    split
    · have := Num.ints_len (xs := [whlV d]) (fun x hx => by rw [List.mem_singleton.1 hx]; exact whlV_in d)
      simp only [List.length_cons, List.length_nil] at this
      omega
    · have := Num.decs_len (ds := [d]) (fun x hx => by rw [List.mem_singleton.1 hx]; exact hi.1)
      simp only [List.length_cons, List.length_nil] at this
      omega
theorem alone_num (d : Int × Int) : numO [] [d] = if decB d = true then some (leastN [] [d]) else none := by
  unfold numO
  by_cases h : decB d = true
  · rw [if_pos h, if_pos ⟨by decide, by show cnt [] = 1; decide, by simpa using h⟩]
  · rw [if_neg h, if_neg (by rintro ⟨_, _, h'⟩; exact h (by simpa using h'))]

set_option maxHeartbeats 12800000 in
theorem lalone_walk (m e c : Int) (w : World) (hm : In m) (he : In e) (hc : In c) (hL : LaidN w) :
    Calls Tryz.prog 8 #[.agg #[.int .i64 m, .int .i64 e], .int .i64 c] w (Says true w) := by
  obtain ⟨z, hz⟩ : ∃ z, w.heap.size = z := ⟨_, rfl⟩
  have hbd := boxed_new w (.int .i64 m) (.int .i64 e) 41
  rw [hz] at hbd
  have HBD := Lib.hid hbd
  have HG0 := Lib.hid (grow_new w (.cells #[.int .i64 m, .int .i64 e] 41))
  have HL := Lib.hid hL
  have HIN := Lib.hid (show In m ∧ In e from ⟨hm, he⟩)
  have HS := Lib.hid (small_any (w.alloc (.cells #[.int .i64 m, .int .i64 e] 41)) (hL.grow HG0.out))
  clear hbd hL hm he
  go_enter Tryz.func8, Tryz.ntmps8
  go_wp2_with fail
  refine (HS.out).mono ?_
  rintro x w1 ⟨rfl, hg⟩
  have HG1 := Lib.hid (HG0.out.trans hg)
  have HBD1 := Lib.hid (HBD.out.grow hg)
  clear hg HS HG0 HBD hz
  obtain ⟨y1, hy1⟩ : ∃ y, w1.heap.size = y := ⟨_, rfl⟩
  have d0 := HBD1.out.fst
  have d1 := HBD1.out.snd
  have hdl := decs_lit1 w1 m e
  have hgd := grow_new w1 (.cells #[.int .i64 m, .int .i64 e] 41)
  rw [hy1] at hdl
  have HC := Lib.hid (tnumbers_any none 0 0 [] (some ⟨y1, 0, none⟩) 1 1 [(m, e)] _ rfl (by decide) Nums.none_ rfl (by decide) (fun x hx => by rw [List.mem_singleton.1 hx]; exact HIN.out) hdl)
  have HGD := Lib.hid hgd
  clear hdl hgd
  go_wp2_with fail
  refine (HC.out).mono ?_
  rintro x w2 hx
  obtain ⟨nd, β, B1, e1, B2, e2, B3, e3, rfl, hβ, k1, k2, k3, hg2⟩ := one_node hx
  have HB := Lib.hid hβ
  have HG2 := Lib.hid (HG1.out.trans (HGD.out.trans hg2))
  have HBD2 := Lib.hid (HBD1.out.grow (HGD.out.trans hg2))
  have HND := Lib.hid (show IsNd w2 w2.heap.size B1 B2 B3 nd from ⟨k1.nums, k2.nums, k3.decs⟩)
  clear hx hβ k1 k2 k3 hg2 d0 d1 HC hy1 HBD1 HG1 HGD
  obtain ⟨q1, hq1⟩ : ∃ q1, nd.shp.length = q1 := ⟨_, rfl⟩
  obtain ⟨q2, hq2⟩ : ∃ q2, nd.ints.length = q2 := ⟨_, rfl⟩
  obtain ⟨q3, hq3⟩ : ∃ q3, nd.decs.length = q3 := ⟨_, rfl⟩
  obtain ⟨q0, hq0⟩ : ∃ q0, nd.kind = q0 := ⟨_, rfl⟩
  have HQ := Lib.hid (show nd.kind = q0 ∧ nd.shp.length = q1 ∧ nd.ints.length = q2 ∧ nd.decs.length = q3 from ⟨hq0, hq1, hq2, hq3⟩)
  simp only [hq0, hq1, hq2, hq3]
  clear hq0 hq1 hq2 hq3
  obtain ⟨y2, hy2⟩ : ∃ y, w2.heap.size = y := ⟨_, rfl⟩
  have hbx := boxN_new w2 q0 B1 q1 e1 B2 q2 e2 B3 q3 e3
  rw [hy2] at hbx
  have hgn := grow_new w2 (.cells #[.int .i64 q0, .slice B1 q1 e1, .slice B2 q2 e2, .slice B3 q3 e3] 34)
  have hsz : (w2.alloc (.cells #[.int .i64 q0, .slice B1 q1 e1, .slice B2 q2 e2, .slice B3 q3 e3] 34)).heap.size = y2 + 1 := by simp [hy2]
  have hnc := nums_lit (w2.alloc (.cells #[.int .i64 q0, .slice B1 q1 e1, .slice B2 q2 e2, .slice B3 q3 e3] 34)) [c]
  rw [hsz] at hnc
  have hgc : Grow (w2.alloc (.cells #[.int .i64 q0, .slice B1 q1 e1, .slice B2 q2 e2, .slice B3 q3 e3] 34)) ((w2.alloc (.cells #[.int .i64 q0, .slice B1 q1 e1, .slice B2 q2 e2, .slice B3 q3 e3] 34)).alloc (.cells #[.int .i64 c] 3)) := grow_new _ _
  have HTQ := Lib.hid (Quo.text_any (some ⟨y2 + 1, 0, none⟩) 1 1 [c] _ rfl (by decide) hnc)
  have HG := Lib.hid (HG2.out.trans (hgn.trans hgc))
  have HBX := Lib.hid (BoxN.grow hbx hgc)
  have HND3 := Lib.hid (HND.out.grow (hgn.trans hgc))
  have HBD := Lib.hid (HBD2.out.grow (hgn.trans hgc))
  clear hbx hgn hsz hnc hgc HG2 HND HBD2
  go_wp2_with fail
  refine (HTQ.out).mono ?_
  rintro x w3 ⟨rfl, hg⟩
  replace HG := Lib.hid (HG.out.trans hg)
  replace HBX := Lib.hid (HBX.out.grow hg)
  have HND := Lib.hid (HND3.out.grow hg)
  replace HBD := Lib.hid (HBD.out.grow hg)
  have hall : ([c] : List Int).all Quo.signZ = Quo.signZ c := by simp
  rw [hall]
  clear hg HTQ HND3 hy2 hall
  have HPQ := Lib.hid (fun W hW => pparse_any (Quo.textQ [c]) (sign_len c) W hW)
  rw [sign_parse] at HPQ
  generalize Quo.textQ [c] = QT at *
  cases hsc : Quo.signZ c with
  | false =>
    rw [if_neg (by rw [hsc]; simp)] at HPQ
    clear hsc
    go_wp2_with fail
    refine (HPQ.out _ (HL.out.grow HG.out)).mono ?_
    rintro x w4 ⟨hg, rfl⟩
    replace HG := Lib.hid (HG.out.trans hg)
    replace HBX := Lib.hid (HBX.out.grow hg)
    replace HND := Lib.hid (HND.out.grow hg)
    replace HBD := Lib.hid (HBD.out.grow hg)
    clear hg HPQ
    cases β with
    | false =>
      have hrr : rightD m e = false := by
        have h := HB.out
        rw [alone_num] at h
        cases hd : decB (m, e) with
        | false => exact hd
        | true => rw [hd] at h; cases h
      have HR := Lib.hid (fun W => right_any m e W HIN.out.1 HIN.out.2)
      rw [hrr] at HR
      have d0 := HBD.out.fst
      have d1 := HBD.out.snd
      go_wp2_with fail
      refine (HR.out _).mono ?_
      rintro x v1 ⟨rfl, hg⟩
      have HG9 := Lib.hid (HG.out.trans hg)
      clear hg
      go_wp2
      go_ret
      exact ⟨rfl, HG9.out⟩
    | true =>
      have hrr : decB (m, e) = true ∧ nd = leastN [] [(m, e)] := by
        have h := HB.out
        rw [alone_num] at h
        cases hd : decB (m, e) with
        | false => rw [hd] at h; cases h
        | true => rw [hd] at h; exact ⟨rfl, by simpa using h.symm⟩
      have HNL := Lib.hid hrr.2
      obtain ⟨a1, a2, a3, a4, a5⟩ := alone_all hrr.1 HIN.out
      have HPS := Lib.hid a1
      have HTX := Lib.hid a2
      have HFS := Lib.hid (show Fine [leastN [] [(m, e)]] ∧ Slim [leastN [] [(m, e)]] from ⟨a3, a4⟩)
      have HLN := Lib.hid a5
      clear hrr a1 a2 a3 a4 a5 HB
      have d0 := HBD.out.fst
      have d1 := HBD.out.snd
      obtain ⟨y4, hy4⟩ : ∃ y, w4.heap.size = y := ⟨_, rfl⟩
      have hdl := decs_lit1 w4 m e
      rw [hy4] at hdl
      have hgd := grow_new w4 (.cells #[.int .i64 m, .int .i64 e] 41)
      have HDC := Lib.hid (Num.decs_any (some ⟨y4, 0, none⟩) 1 1 [(m, e)] _ rfl (by decide) hdl (fun x hx => by rw [List.mem_singleton.1 hx]; exact HIN.out) (HL.out.grow (HG.out.trans hgd)).1.pows)
      have HWH := Lib.hid (fun W => dwhole_any m e W HIN.out.1 HIN.out.2)
      replace HG := Lib.hid (HG.out.trans hgd)
      replace HBX := Lib.hid (HBX.out.grow hgd)
      replace HND := Lib.hid (HND.out.grow hgd)
      replace HBD := Lib.hid (HBD.out.grow hgd)
      clear hdl hgd
      go_wp2_with fail
      refine (HDC.out).mono ?_
      rintro x u1 ⟨rfl, hg⟩
      replace HG := Lib.hid (HG.out.trans hg)
      replace HBX := Lib.hid (HBX.out.grow hg)
      replace HND := Lib.hid (HND.out.grow hg)
      replace HBD := Lib.hid (HBD.out.grow hg)
      clear hg HDC hy4 d0 d1
      have d0 := HBD.out.fst
      have d1 := HBD.out.snd
      go_wp2_with fail
      refine (HWH.out _).mono ?_
      rintro x u2 ⟨rfl, hg⟩
      replace HG := Lib.hid (HG.out.trans hg)
      replace HBX := Lib.hid (HBX.out.grow hg)
      replace HND := Lib.hid (HND.out.grow hg)
      clear hg HWH d0 d1 HBD
      have hv : (wholeD m e).1 = whlV (m, e) := rfl
      have hb : (wholeD m e).2 = whlB (m, e) := rfl
      rw [hv, hb]
      clear hv hb
      cases hwb : whlB (m, e) with
      | true =>
        have HAL : Hid (Num.intsT [whlV (m, e)] = aloneT (m, e)) := Lib.hid (by unfold aloneT; rw [if_pos hwb])
        have HVI := Lib.hid (whlV_in (m, e))
        obtain ⟨ν, hν⟩ : ∃ ν, whlV (m, e) = ν := ⟨_, rfl⟩
        rw [hν] at HAL HVI
        rw [hν]
        obtain ⟨y7, hy7⟩ : ∃ y, u2.heap.size = y := ⟨_, rfl⟩
        have hnl := nums_lit u2 [ν]
        rw [hy7] at hnl
        have hgd : Grow u2 (u2.alloc (.cells #[.int .i64 ν] 3)) := grow_new _ _
        have HIC := Lib.hid (Num.ints_any (some ⟨y7, 0, none⟩) 1 1 [ν] _ rfl (by decide) hnl (fun x hx => by rw [List.mem_singleton.1 hx]; exact HVI.out) (HL.out.grow (HG.out.trans hgd)).1.pows)
        replace HG := Lib.hid (HG.out.trans hgd)
        replace HBX := Lib.hid (HBX.out.grow hgd)
        replace HND := Lib.hid (HND.out.grow hgd)
        rw [HAL.out] at HIC
        clear hnl hgd hwb hν
        go_wp2_with fail
        refine (HIC.out).mono ?_
        rintro x u3 ⟨rfl, hg⟩
        replace HG := Lib.hid (HG.out.trans hg)
        replace HBX := Lib.hid (HBX.out.grow hg)
        replace HND := Lib.hid (HND.out.grow hg)
        clear hg HIC hy7 HAL
        obtain ⟨p1, hp1⟩ : ∃ p, aloneT (m, e) = p := ⟨_, rfl⟩
        rw [hp1] at HPS HTX HLN
        have HPC := Lib.hid (fun W hW => pparse_any p1 HLN.out W hW)
        rw [HPS.out] at HPC
        have hst := text_eq (S := ⟨p1.toArray⟩) rfl (rfl : p1 = p1)
        go_wp2_with fail
        refine (HPC.out _ (HL.out.grow HG.out)).mono ?_
        rintro x v1 ⟨hg, AP, cP, rfl, _, hpn⟩
        have HPN := Lib.hid hpn.nodes
        simp only [show [leastN [] [(m, e)]].length = 1 from rfl]
        replace HG := Lib.hid (HG.out.trans hg)
        replace HBX := Lib.hid (HBX.out.grow hg)
        replace HND := Lib.hid (HND.out.grow hg)
        clear hg hpn HPC
        obtain ⟨y5, hy5⟩ : ∃ y, v1.heap.size = y := ⟨_, rfl⟩
        have b0 := HBX.out.at0
        have b1 := HBX.out.at1
        have b2 := HBX.out.at2
        have b3 := HBX.out.at3
        have hrow := node_lit v1 q0 B1 q1 e1 B2 q2 e2 B3 q3 e3 nd HQ.out.1 HQ.out.2.1 HQ.out.2.2.1 HQ.out.2.2.2 HND.out
        rw [hy5, HNL.out] at hrow
        have hgr := grow_new v1 (.cells #[.int .i64 q0, .slice B1 q1 e1, .slice B2 q2 e2, .slice B3 q3 e3] 34)
        have HSM := Lib.hid (rsame_says (xs := [leastN [] [(m, e)]]) (ys := [leastN [] [(m, e)]]) (by simp) AP (some ⟨y5, 0, none⟩) 1 1 cP 1 _ rfl rfl HFS.out.1 HFS.out.1 (HPN.out.grow hgr) hrow)
        replace HG := Lib.hid (HG.out.trans hgr)
        replace HBX := Lib.hid (HBX.out.grow hgr)
        replace HND := Lib.hid (HND.out.grow hgr)
        clear hrow hgr HPN
        go_wp2_with fail
        refine (HSM.out).mono ?_
        rintro x v2 ⟨rfl, hg⟩
        replace HG := Lib.hid (HG.out.trans hg)
        replace HBX := Lib.hid (HBX.out.grow hg)
        replace HND := Lib.hid (HND.out.grow hg)
        clear hg HSM b0 b1 b2 b3 hy5
        obtain ⟨y6, hy6⟩ : ∃ y, v2.heap.size = y := ⟨_, rfl⟩
        have b0 := HBX.out.at0
        have b1 := HBX.out.at1
        have b2 := HBX.out.at2
        have b3 := HBX.out.at3
        have hrow := node_lit v2 q0 B1 q1 e1 B2 q2 e2 B3 q3 e3 nd HQ.out.1 HQ.out.2.1 HQ.out.2.2.1 HQ.out.2.2.2 HND.out
        rw [hy6, HNL.out] at hrow
        have hgr := grow_new v2 (.cells #[.int .i64 q0, .slice B1 q1 e1, .slice B2 q2 e2, .slice B3 q3 e3] 34)
        have HTC := Lib.hid (text_says HTX.out rfl (some ⟨y6, 0, none⟩) 1 1 _ rfl (Nat.le_refl _) HFS.out hrow (HL.out.grow (HG.out.trans hgr)))
        replace HG := Lib.hid (HG.out.trans hgr)
        clear hrow hgr
        go_wp2_with fail
        refine (HTC.out).mono ?_
        rintro x v3 ⟨rfl, hg⟩
        replace HG := Lib.hid (HG.out.trans hg)
        clear hg HTC b0 b1 b2 b3
        go_wp2
        go_ret
        exact ⟨rfl, HG.out⟩
      | false =>
        have HAL : Hid (Num.decsT [(m, e)] = aloneT (m, e)) := Lib.hid (by unfold aloneT; rw [if_neg (by rw [hwb]; simp)])
        rw [HAL.out]
        clear hwb HAL
        obtain ⟨p1, hp1⟩ : ∃ p, aloneT (m, e) = p := ⟨_, rfl⟩
        rw [hp1] at HPS HTX HLN
        have HPC := Lib.hid (fun W hW => pparse_any p1 HLN.out W hW)
        rw [HPS.out] at HPC
        have hst := text_eq (S := ⟨p1.toArray⟩) rfl (rfl : p1 = p1)
        go_wp2_with fail
        refine (HPC.out _ (HL.out.grow HG.out)).mono ?_
        rintro x v1 ⟨hg, AP, cP, rfl, _, hpn⟩
        have HPN := Lib.hid hpn.nodes
        simp only [show [leastN [] [(m, e)]].length = 1 from rfl]
        replace HG := Lib.hid (HG.out.trans hg)
        replace HBX := Lib.hid (HBX.out.grow hg)
        replace HND := Lib.hid (HND.out.grow hg)
        clear hg hpn HPC
        obtain ⟨y5, hy5⟩ : ∃ y, v1.heap.size = y := ⟨_, rfl⟩
        have b0 := HBX.out.at0
        have b1 := HBX.out.at1
        have b2 := HBX.out.at2
        have b3 := HBX.out.at3
        have hrow := node_lit v1 q0 B1 q1 e1 B2 q2 e2 B3 q3 e3 nd HQ.out.1 HQ.out.2.1 HQ.out.2.2.1 HQ.out.2.2.2 HND.out
        rw [hy5, HNL.out] at hrow
        have hgr := grow_new v1 (.cells #[.int .i64 q0, .slice B1 q1 e1, .slice B2 q2 e2, .slice B3 q3 e3] 34)
        have HSM := Lib.hid (rsame_says (xs := [leastN [] [(m, e)]]) (ys := [leastN [] [(m, e)]]) (by simp) AP (some ⟨y5, 0, none⟩) 1 1 cP 1 _ rfl rfl HFS.out.1 HFS.out.1 (HPN.out.grow hgr) hrow)
        replace HG := Lib.hid (HG.out.trans hgr)
        replace HBX := Lib.hid (HBX.out.grow hgr)
        replace HND := Lib.hid (HND.out.grow hgr)
        clear hrow hgr HPN
        go_wp2_with fail
        refine (HSM.out).mono ?_
        rintro x v2 ⟨rfl, hg⟩
        replace HG := Lib.hid (HG.out.trans hg)
        replace HBX := Lib.hid (HBX.out.grow hg)
        replace HND := Lib.hid (HND.out.grow hg)
        clear hg HSM b0 b1 b2 b3 hy5
        obtain ⟨y6, hy6⟩ : ∃ y, v2.heap.size = y := ⟨_, rfl⟩
        have b0 := HBX.out.at0
        have b1 := HBX.out.at1
        have b2 := HBX.out.at2
        have b3 := HBX.out.at3
        have hrow := node_lit v2 q0 B1 q1 e1 B2 q2 e2 B3 q3 e3 nd HQ.out.1 HQ.out.2.1 HQ.out.2.2.1 HQ.out.2.2.2 HND.out
        rw [hy6, HNL.out] at hrow
        have hgr := grow_new v2 (.cells #[.int .i64 q0, .slice B1 q1 e1, .slice B2 q2 e2, .slice B3 q3 e3] 34)
        have HTC := Lib.hid (text_says HTX.out rfl (some ⟨y6, 0, none⟩) 1 1 _ rfl (Nat.le_refl _) HFS.out hrow (HL.out.grow (HG.out.trans hgr)))
        replace HG := Lib.hid (HG.out.trans hgr)
        clear hrow hgr
        go_wp2_with fail
        refine (HTC.out).mono ?_
        rintro x v3 ⟨rfl, hg⟩
        replace HG := Lib.hid (HG.out.trans hg)
        clear hg HTC b0 b1 b2 b3
        go_wp2
        go_ret
        exact ⟨rfl, HG.out⟩
  | true =>
    rw [if_pos hsc] at HPQ
    clear hsc
    go_wp2_with fail
    refine (HPQ.out _ (HL.out.grow HG.out)).mono ?_
    rintro x w4 ⟨hg, AQ, cQ, rfl, _, hqn⟩
    simp only [show [(⟨3, [], [c], []⟩ : Nd)].length = 1 from rfl]
    replace HG := Lib.hid (HG.out.trans hg)
    replace HBX := Lib.hid (HBX.out.grow hg)
    replace HND := Lib.hid (HND.out.grow hg)
    replace HBD := Lib.hid (HBD.out.grow hg)
    have HQN := Lib.hid hqn.nodes
    clear hg HPQ hqn
    obtain ⟨y3, hy3⟩ : ∃ y, w4.heap.size = y := ⟨_, rfl⟩
    have hn1 := nums_lit w4 [c]
    rw [hy3] at hn1
    have hs1 : (w4.alloc (.cells #[.int .i64 c] 3)).heap.size = y3 + 1 := by simp [hy3]
    have hrow := node_lit (w4.alloc (.cells #[.int .i64 c] 3)) 3 none 0 0 (some ⟨y3, 0, none⟩) 1 1 none 0 0 ⟨3, [], [c], []⟩ rfl rfl rfl rfl ⟨Nums.none_, hn1, Decs.none_⟩
    rw [hs1] at hrow
    have hgr : Grow w4 ((w4.alloc (.cells #[.int .i64 c] 3)).alloc (.cells #[.int .i64 3, .slice none 0 0, .slice (some ⟨y3, 0, none⟩) 1 1, .slice none 0 0] 34)) := grow_new2 _ _ _
    have hfc : Fine [(⟨3, [], [c], []⟩ : Nd)] := ⟨by simp, fun n hn => by rw [List.mem_singleton.1 hn]; exact ⟨in3, by simp, by simp, by simp, fun x hx => by cases hx⟩, fun n hn => by rw [List.mem_singleton.1 hn]; intro x hx; rw [List.mem_singleton.1 hx]; exact hc⟩
    have HSQ := Lib.hid (rsame_says (xs := [⟨3, [], [c], []⟩]) (ys := [⟨3, [], [c], []⟩]) (by simp) AQ (some ⟨y3 + 1, 0, none⟩) 1 1 cQ 1 _ rfl rfl hfc hfc (HQN.out.grow hgr) hrow)
    replace HG := Lib.hid (HG.out.trans hgr)
    replace HBX := Lib.hid (HBX.out.grow hgr)
    replace HND := Lib.hid (HND.out.grow hgr)
    replace HBD := Lib.hid (HBD.out.grow hgr)
    clear hrow hgr hfc hn1 hs1 HQN
    go_wp2_with fail
    refine (HSQ.out).mono ?_
    rintro x w5 ⟨rfl, hg⟩
    replace HG := Lib.hid (HG.out.trans hg)
    replace HBX := Lib.hid (HBX.out.grow hg)
    replace HND := Lib.hid (HND.out.grow hg)
    replace HBD := Lib.hid (HBD.out.grow hg)
    clear hg HSQ hy3
    cases β with
    | false =>
      have hrr : rightD m e = false := by
        have h := HB.out
        rw [alone_num] at h
        cases hd : decB (m, e) with
        | false => exact hd
        | true => rw [hd] at h; cases h
      have HR := Lib.hid (fun W => right_any m e W HIN.out.1 HIN.out.2)
      rw [hrr] at HR
      have d0 := HBD.out.fst
      have d1 := HBD.out.snd
      go_wp2_with fail
      refine (HR.out _).mono ?_
      rintro x v1 ⟨rfl, hg⟩
      have HG9 := Lib.hid (HG.out.trans hg)
      clear hg
      go_wp2
      go_ret
      exact ⟨rfl, HG9.out⟩
    | true =>
      have hrr : decB (m, e) = true ∧ nd = leastN [] [(m, e)] := by
        have h := HB.out
        rw [alone_num] at h
        cases hd : decB (m, e) with
        | false => rw [hd] at h; cases h
        | true => rw [hd] at h; exact ⟨rfl, by simpa using h.symm⟩
      have HNL := Lib.hid hrr.2
      obtain ⟨a1, a2, a3, a4, a5⟩ := alone_all hrr.1 HIN.out
      have HPS := Lib.hid a1
      have HTX := Lib.hid a2
      have HFS := Lib.hid (show Fine [leastN [] [(m, e)]] ∧ Slim [leastN [] [(m, e)]] from ⟨a3, a4⟩)
      have HLN := Lib.hid a5
      clear hrr a1 a2 a3 a4 a5 HB
      have d0 := HBD.out.fst
      have d1 := HBD.out.snd
      obtain ⟨y4, hy4⟩ : ∃ y, w5.heap.size = y := ⟨_, rfl⟩
      have hdl := decs_lit1 w5 m e
      rw [hy4] at hdl
      have hgd := grow_new w5 (.cells #[.int .i64 m, .int .i64 e] 41)
      have HDC := Lib.hid (Num.decs_any (some ⟨y4, 0, none⟩) 1 1 [(m, e)] _ rfl (by decide) hdl (fun x hx => by rw [List.mem_singleton.1 hx]; exact HIN.out) (HL.out.grow (HG.out.trans hgd)).1.pows)
      have HWH := Lib.hid (fun W => dwhole_any m e W HIN.out.1 HIN.out.2)
      replace HG := Lib.hid (HG.out.trans hgd)
      replace HBX := Lib.hid (HBX.out.grow hgd)
      replace HND := Lib.hid (HND.out.grow hgd)
      replace HBD := Lib.hid (HBD.out.grow hgd)
      clear hdl hgd
      go_wp2_with fail
      refine (HDC.out).mono ?_
      rintro x u1 ⟨rfl, hg⟩
      replace HG := Lib.hid (HG.out.trans hg)
      replace HBX := Lib.hid (HBX.out.grow hg)
      replace HND := Lib.hid (HND.out.grow hg)
      replace HBD := Lib.hid (HBD.out.grow hg)
      clear hg HDC hy4 d0 d1
      have d0 := HBD.out.fst
      have d1 := HBD.out.snd
      go_wp2_with fail
      refine (HWH.out _).mono ?_
      rintro x u2 ⟨rfl, hg⟩
      replace HG := Lib.hid (HG.out.trans hg)
      replace HBX := Lib.hid (HBX.out.grow hg)
      replace HND := Lib.hid (HND.out.grow hg)
      clear hg HWH d0 d1 HBD
      have hv : (wholeD m e).1 = whlV (m, e) := rfl
      have hb : (wholeD m e).2 = whlB (m, e) := rfl
      rw [hv, hb]
      clear hv hb
      cases hwb : whlB (m, e) with
      | true =>
        have HAL : Hid (Num.intsT [whlV (m, e)] = aloneT (m, e)) := Lib.hid (by unfold aloneT; rw [if_pos hwb])
        have HVI := Lib.hid (whlV_in (m, e))
        obtain ⟨ν, hν⟩ : ∃ ν, whlV (m, e) = ν := ⟨_, rfl⟩
        rw [hν] at HAL HVI
        rw [hν]
        obtain ⟨y7, hy7⟩ : ∃ y, u2.heap.size = y := ⟨_, rfl⟩
        have hnl := nums_lit u2 [ν]
        rw [hy7] at hnl
        have hgd : Grow u2 (u2.alloc (.cells #[.int .i64 ν] 3)) := grow_new _ _
        have HIC := Lib.hid (Num.ints_any (some ⟨y7, 0, none⟩) 1 1 [ν] _ rfl (by decide) hnl (fun x hx => by rw [List.mem_singleton.1 hx]; exact HVI.out) (HL.out.grow (HG.out.trans hgd)).1.pows)
        replace HG := Lib.hid (HG.out.trans hgd)
        replace HBX := Lib.hid (HBX.out.grow hgd)
        replace HND := Lib.hid (HND.out.grow hgd)
        rw [HAL.out] at HIC
        clear hnl hgd hwb hν
        go_wp2_with fail
        refine (HIC.out).mono ?_
        rintro x u3 ⟨rfl, hg⟩
        replace HG := Lib.hid (HG.out.trans hg)
        replace HBX := Lib.hid (HBX.out.grow hg)
        replace HND := Lib.hid (HND.out.grow hg)
        clear hg HIC hy7 HAL
        obtain ⟨p1, hp1⟩ : ∃ p, aloneT (m, e) = p := ⟨_, rfl⟩
        rw [hp1] at HPS HTX HLN
        have HPC := Lib.hid (fun W hW => pparse_any p1 HLN.out W hW)
        rw [HPS.out] at HPC
        have hst := text_eq (S := ⟨p1.toArray⟩) rfl (rfl : p1 = p1)
        go_wp2_with fail
        refine (HPC.out _ (HL.out.grow HG.out)).mono ?_
        rintro x v1 ⟨hg, AP, cP, rfl, _, hpn⟩
        have HPN := Lib.hid hpn.nodes
        simp only [show [leastN [] [(m, e)]].length = 1 from rfl]
        replace HG := Lib.hid (HG.out.trans hg)
        replace HBX := Lib.hid (HBX.out.grow hg)
        replace HND := Lib.hid (HND.out.grow hg)
        clear hg hpn HPC
        obtain ⟨y5, hy5⟩ : ∃ y, v1.heap.size = y := ⟨_, rfl⟩
        have b0 := HBX.out.at0
        have b1 := HBX.out.at1
        have b2 := HBX.out.at2
        have b3 := HBX.out.at3
        have hrow := node_lit v1 q0 B1 q1 e1 B2 q2 e2 B3 q3 e3 nd HQ.out.1 HQ.out.2.1 HQ.out.2.2.1 HQ.out.2.2.2 HND.out
        rw [hy5, HNL.out] at hrow
        have hgr := grow_new v1 (.cells #[.int .i64 q0, .slice B1 q1 e1, .slice B2 q2 e2, .slice B3 q3 e3] 34)
        have HSM := Lib.hid (rsame_says (xs := [leastN [] [(m, e)]]) (ys := [leastN [] [(m, e)]]) (by simp) AP (some ⟨y5, 0, none⟩) 1 1 cP 1 _ rfl rfl HFS.out.1 HFS.out.1 (HPN.out.grow hgr) hrow)
        replace HG := Lib.hid (HG.out.trans hgr)
        replace HBX := Lib.hid (HBX.out.grow hgr)
        replace HND := Lib.hid (HND.out.grow hgr)
        clear hrow hgr HPN
        go_wp2_with fail
        refine (HSM.out).mono ?_
        rintro x v2 ⟨rfl, hg⟩
        replace HG := Lib.hid (HG.out.trans hg)
        replace HBX := Lib.hid (HBX.out.grow hg)
        replace HND := Lib.hid (HND.out.grow hg)
        clear hg HSM b0 b1 b2 b3 hy5
        obtain ⟨y6, hy6⟩ : ∃ y, v2.heap.size = y := ⟨_, rfl⟩
        have b0 := HBX.out.at0
        have b1 := HBX.out.at1
        have b2 := HBX.out.at2
        have b3 := HBX.out.at3
        have hrow := node_lit v2 q0 B1 q1 e1 B2 q2 e2 B3 q3 e3 nd HQ.out.1 HQ.out.2.1 HQ.out.2.2.1 HQ.out.2.2.2 HND.out
        rw [hy6, HNL.out] at hrow
        have hgr := grow_new v2 (.cells #[.int .i64 q0, .slice B1 q1 e1, .slice B2 q2 e2, .slice B3 q3 e3] 34)
        have HTC := Lib.hid (text_says HTX.out rfl (some ⟨y6, 0, none⟩) 1 1 _ rfl (Nat.le_refl _) HFS.out hrow (HL.out.grow (HG.out.trans hgr)))
        replace HG := Lib.hid (HG.out.trans hgr)
        clear hrow hgr
        go_wp2_with fail
        refine (HTC.out).mono ?_
        rintro x v3 ⟨rfl, hg⟩
        replace HG := Lib.hid (HG.out.trans hg)
        clear hg HTC b0 b1 b2 b3
        go_wp2
        go_ret
        exact ⟨rfl, HG.out⟩
      | false =>
        have HAL : Hid (Num.decsT [(m, e)] = aloneT (m, e)) := Lib.hid (by unfold aloneT; rw [if_neg (by rw [hwb]; simp)])
        rw [HAL.out]
        clear hwb HAL
        obtain ⟨p1, hp1⟩ : ∃ p, aloneT (m, e) = p := ⟨_, rfl⟩
        rw [hp1] at HPS HTX HLN
        have HPC := Lib.hid (fun W hW => pparse_any p1 HLN.out W hW)
        rw [HPS.out] at HPC
        have hst := text_eq (S := ⟨p1.toArray⟩) rfl (rfl : p1 = p1)
        go_wp2_with fail
        refine (HPC.out _ (HL.out.grow HG.out)).mono ?_
        rintro x v1 ⟨hg, AP, cP, rfl, _, hpn⟩
        have HPN := Lib.hid hpn.nodes
        simp only [show [leastN [] [(m, e)]].length = 1 from rfl]
        replace HG := Lib.hid (HG.out.trans hg)
        replace HBX := Lib.hid (HBX.out.grow hg)
        replace HND := Lib.hid (HND.out.grow hg)
        clear hg hpn HPC
        obtain ⟨y5, hy5⟩ : ∃ y, v1.heap.size = y := ⟨_, rfl⟩
        have b0 := HBX.out.at0
        have b1 := HBX.out.at1
        have b2 := HBX.out.at2
        have b3 := HBX.out.at3
        have hrow := node_lit v1 q0 B1 q1 e1 B2 q2 e2 B3 q3 e3 nd HQ.out.1 HQ.out.2.1 HQ.out.2.2.1 HQ.out.2.2.2 HND.out
        rw [hy5, HNL.out] at hrow
        have hgr := grow_new v1 (.cells #[.int .i64 q0, .slice B1 q1 e1, .slice B2 q2 e2, .slice B3 q3 e3] 34)
        have HSM := Lib.hid (rsame_says (xs := [leastN [] [(m, e)]]) (ys := [leastN [] [(m, e)]]) (by simp) AP (some ⟨y5, 0, none⟩) 1 1 cP 1 _ rfl rfl HFS.out.1 HFS.out.1 (HPN.out.grow hgr) hrow)
        replace HG := Lib.hid (HG.out.trans hgr)
        replace HBX := Lib.hid (HBX.out.grow hgr)
        replace HND := Lib.hid (HND.out.grow hgr)
        clear hrow hgr HPN
        go_wp2_with fail
        refine (HSM.out).mono ?_
        rintro x v2 ⟨rfl, hg⟩
        replace HG := Lib.hid (HG.out.trans hg)
        replace HBX := Lib.hid (HBX.out.grow hg)
        replace HND := Lib.hid (HND.out.grow hg)
        clear hg HSM b0 b1 b2 b3 hy5
        obtain ⟨y6, hy6⟩ : ∃ y, v2.heap.size = y := ⟨_, rfl⟩
        have b0 := HBX.out.at0
        have b1 := HBX.out.at1
        have b2 := HBX.out.at2
        have b3 := HBX.out.at3
        have hrow := node_lit v2 q0 B1 q1 e1 B2 q2 e2 B3 q3 e3 nd HQ.out.1 HQ.out.2.1 HQ.out.2.2.1 HQ.out.2.2.2 HND.out
        rw [hy6, HNL.out] at hrow
        have hgr := grow_new v2 (.cells #[.int .i64 q0, .slice B1 q1 e1, .slice B2 q2 e2, .slice B3 q3 e3] 34)
        have HTC := Lib.hid (text_says HTX.out rfl (some ⟨y6, 0, none⟩) 1 1 _ rfl (Nat.le_refl _) HFS.out hrow (HL.out.grow (HG.out.trans hgr)))
        replace HG := Lib.hid (HG.out.trans hgr)
        clear hrow hgr
        go_wp2_with fail
        refine (HTC.out).mono ?_
        rintro x v3 ⟨rfl, hg⟩
        replace HG := Lib.hid (HG.out.trans hg)
        clear hg HTC b0 b1 b2 b3
        go_wp2
        go_ret
        exact ⟨rfl, HG.out⟩
end Go.Proofs.YteoogioanjkacaaGreatDoor
