/-
  Contracts, joined: TightA, NoteLaws, LRows. Nothing is claimed here by itself.
-/
import Derived.Test.YteoogioanjkacaaGreatDoorK11
section
namespace Go.Proofs.YteoogioanjkacaaGreatDoor
set_option maxRecDepth 20000
set_option linter.unusedVariables false
set_option linter.unusedSimpArgs false
end Go.Proofs.YteoogioanjkacaaGreatDoor
end
section
namespace Go.Proofs.YteoogioanjkacaaGreatDoor
set_option linter.unusedVariables false
set_option linter.unusedSimpArgs false
end Go.Proofs.YteoogioanjkacaaGreatDoor
end
section
namespace Go.Proofs.YteoogioanjkacaaGreatDoor
set_option linter.unusedVariables false
set_option linter.unusedSimpArgs false
/-- one node alone -/
theorem alone_right {n m : Nd} (h : OkOne n m) : rightA [m] = true ∧ formA [m] = [m] ∧ (ws [m]).i = cnt m.shp := by
  obtain ⟨h1, h2, h3, h4, h5, h6⟩ := h
  have hkc : kc m = 0 := by simp [kc, h3]
  have hp : par 16 [m] = some (top m st0) := par_mk h1 (by rw [hkc]; rfl)
  have hc := cnt_le1 m.shp
  have hw : whlD [m] = some (top m st0) := whl_mk hp (by show 0 + cnt m.shp ≤ 1048576; omega) rfl
  refine ⟨by unfold rightA; rw [hw]; rfl, ?_, by rw [ws_some hw]; show 0 + cnt m.shp = _; omega⟩
  show formF 16 [m] = [m]
  rw [formF_cons, hkc, catF_zero]
  unfold clos
  rw [h6]
end Go.Proofs.YteoogioanjkacaaGreatDoor
end
namespace Go.Proofs.YteoogioanjkacaaGreatDoor
set_option linter.unusedVariables false
set_option linter.unusedSimpArgs false
set_option maxRecDepth 10000
theorem note_leaf {a : List Nd} (hr : rightA a = true) (hk : (a.getD 0 nd0).kind ≠ 5) : noteA a = headT (a.getD 0 nd0) ++ leafT (a.getD 0 nd0) := by
  obtain ⟨s, hs⟩ := right_some hr
  obtain ⟨n, l', t, rfl, hok, ht, rfl, hn, hi⟩ := right_parts hs
  have hk' : n.kind ≠ 5 := hk
  show noteF 16 (n :: l') = headT n ++ leafT n
  rw [noteF_cons]
  unfold headT
  simp only [if_neg hk']

theorem one_tight {m : Nd} (h : OkOne m m) : rightA [m] = true ∧ formA [m] = [m] := ⟨(alone_right h).1, (alone_right h).2.1⟩
theorem one_fine {m : Nd} (h : OkOne m m) : Fine [m] := ⟨by simp, fun n hn => by rw [List.mem_singleton.1 hn]; exact h.2.2.2.1, fun n hn => by rw [List.mem_singleton.1 hn]; exact h.2.2.2.2.1⟩
theorem one_note {m : Nd} (h : OkOne m m) : noteA [m] = headT m ++ leafT m := note_leaf (one_tight h).1 h.2.2.1
theorem one_back {m : Nd} (h : OkOne m m) : parseN (headT m ++ leafT m) = some [m] := by
  rw [← one_note h]
  exact parse_back (one_tight h).1 (one_fine h) (one_tight h).2
/-- a node of signs -/
theorem chars_one {s xs : List Int} (hs : rightB s = true) (hc : cnt s = xs.length) (hx : xs.all signB = true) (hl : xs.length ≤ 1100000) : OkOne ⟨3, s, xs, []⟩ ⟨3, s, xs, []⟩ := by
  have hsl := (right_iff.1 hs).1
  have hin : ∀ x ∈ xs, In x := fun x h => in_sign (List.all_eq_true.1 hx x h)
  refine ⟨?_, rfl, by simp, ⟨in3, by show s.length ≤ _; omega, hl, by simp, fun x h => by cases h⟩, hin, by simp [foldO]⟩
  unfold okB fillB
  simp [hs, hc, hx]
theorem chars_head {s xs : List Int} : headT ⟨3, s, xs, []⟩ = if s = [] then [] else shpT s := by unfold headT; simp
theorem chars_leaf {s xs : List Int} : leafT ⟨3, s, xs, []⟩ = Quo.textQ xs := by unfold leafT; simp
/-- a shape without items of any kind behind it is no notation -/
theorem shape_none {s : List Int} (hs : s ≠ []) (hr : rightB s = true) : parseN (shpT s) = none := by
  unfold parseN
  have h := shape_read (d := 15) hs hr []
  rw [List.append_nil] at h
  rw [h]
  unfold itemsR
  rw [if_pos hr]
  rfl
/-- a node of numbers -/
theorem nums_one {s : List Int} {l : List (Int × Int)} (hs : rightB s = true) (hc : cnt s = l.length) (hd : l.all decB = true) (hi : ∀ x ∈ l, In x.1 ∧ In x.2) (hl : l.length ≤ 1100000) : OkOne (leastN s l) (leastN s l) := by
  have h := least_one (n := ⟨2, s, [], []⟩) hs hc hd hi hl
  exact ⟨h.1, rfl, h.2.2.1, h.2.2.2.1, h.2.2.2.2.1, h.2.2.2.2.2⟩
theorem least_ints {s xs : List Int} (h : ∀ x ∈ xs, In x) : leastN s (xs.map ofD) = ⟨kindI xs, s, xs, []⟩ := by
  obtain ⟨a1, a2, a3⟩ := of_all h
  unfold leastN
  rw [if_pos a1, a2]
theorem kindI_not (xs : List Int) : kindI xs ≠ 3 ∧ kindI xs ≠ 4 ∧ kindI xs ≠ 5 := by
  rcases (kindI_is xs).1 with h | h <;> rw [h] <;> decide
/-- whole numbers behind a shape that counts them -/
theorem ints_note {s xs : List Int} (h0 : xs ≠ []) : headT ⟨kindI xs, s, xs, []⟩ ++ leafT ⟨kindI xs, s, xs, []⟩ = (if s = [] then [] else shpT s) ++ Num.intsT xs := by
  obtain ⟨k3, k4, k5⟩ := kindI_not xs
  have e1 : headT ⟨kindI xs, s, xs, []⟩ = if s = [] then [] else shpT s := by
    unfold headT
    dsimp only
    rw [if_neg k5]
  have e2 : leafT ⟨kindI xs, s, xs, []⟩ = Num.intsT xs := by
    unfold leafT numsT
    dsimp only
    rw [if_neg k3, if_neg (by rintro ⟨_, _, h, _⟩; exact h0 h), if_neg k4]
  rw [e1, e2]
end Go.Proofs.YteoogioanjkacaaGreatDoor
namespace Go.Proofs.YteoogioanjkacaaGreatDoor
set_option maxRecDepth 20000
open Go.RowKit Go.Lib
set_option linter.unusedSimpArgs false
set_option linter.unusedVariables false
theorem right_1 {n : Nat} (h : n ≤ 1048576) : rightB [(n : Int)] = true ∧ cnt [(n : Int)] = n := by
  have hr : rightB [(n : Int)] = true := by
    rw [right_iff]
    refine ⟨by simp, ?_, ?_⟩
    · simp only [List.all_cons, List.all_nil, Bool.and_true, okI, Bool.and_eq_true, decide_eq_true_eq]; omega
    · simp only [prodN, toN, List.map_cons, List.map_nil, Int.toNat_natCast]; omega
  refine ⟨hr, ?_⟩
  unfold cnt
  rw [if_pos hr]
  simp only [prodN, toN, List.map_cons, List.map_nil, Int.toNat_natCast]; omega
theorem right_2 {n : Nat} (h : n ≤ 1048576) : rightB [1, (n : Int)] = true ∧ cnt [1, (n : Int)] = n := by
  have hr : rightB [1, (n : Int)] = true := by
    rw [right_iff]
    refine ⟨by simp, ?_, ?_⟩
    · simp only [List.all_cons, List.all_nil, Bool.and_true, okI, Bool.and_eq_true, decide_eq_true_eq]; omega
    · simp only [prodN, toN, List.map_cons, List.map_nil, Int.toNat_natCast, show (1 : Int).toNat = 1 from rfl]; omega
  refine ⟨hr, ?_⟩
  unfold cnt
  rw [if_pos hr]
  simp only [prodN, toN, List.map_cons, List.map_nil, Int.toNat_natCast, show (1 : Int).toNat = 1 from rfl]; omega
theorem ints_two (k : Int) : Num.intsT [1, k] = [49, 32] ++ Num.intsT [k] := by
  unfold Num.intsT
  have h1 : Num.num 1 = [49] := by kernel_rfl
  simp [Go.Lib.join, h1]
/-- a row of signs is read of what quote writes -/
theorem row_signs {l : List Int} (h0 : 1 ≤ l.length) (hl : l.length ≤ 100) : parseN (Num.intsT [(l.length : Int)] ++ [226, 141, 180] ++ Quo.textQ l) = if l.all Quo.signZ = true then some [⟨3, [(l.length : Int)], l, []⟩] else none := by
  obtain ⟨k1, k2⟩ := right_1 (n := l.length) (by omega)
  by_cases h : l.all Quo.signZ = true
  · rw [if_pos h]
    have hx : l.all signB = true := by
      rw [← h]
      congr 1
      exact funext signB_Z
    have h1 := one_back (chars_one k1 k2 hx (by omega))
    rw [chars_head, chars_leaf, if_neg (by simp)] at h1
    exact h1
  · rw [if_neg h]
    have : Quo.textQ l = [] := by
      unfold Quo.textQ
      rw [if_neg h]
    rw [this, List.append_nil]
    exact shape_none (by simp) k1
theorem quote_len (l : List Int) : (Quo.textQ l).length ≤ 4 * l.length + 2 := by
  by_cases h : l.all Quo.signZ = true
  · rw [quoteT h]
    have := Quo.qT_le (Quo.natsZ l)
    rw [Quo.nats_len] at this
    simp only [List.length_cons, List.length_append, List.length_nil] at *
    omega
  · have : Quo.textQ l = [] := by
      unfold Quo.textQ
      rw [if_neg h]
    rw [this]
    simp
theorem row_signs_fine {l : List Int} (hl : l.length ≤ 100) (h : l.all Quo.signZ = true) : Fine [⟨3, [(l.length : Int)], l, []⟩] := by
  obtain ⟨k1, k2⟩ := right_1 (n := l.length) (by omega)
  have hx : l.all signB = true := by
    rw [← h]
    congr 1
    exact funext signB_Z
  exact one_fine (chars_one k1 k2 hx (by omega))
/-- a row of numbers is read of what number writes -/
theorem row_nums {m : List Int} (h0 : 1 ≤ m.length) (hm : m.length ≤ 100) (hi : ∀ x ∈ m, In x) :
    parseN ([49, 32] ++ Num.intsT [(m.length : Int)] ++ [226, 141, 180] ++ Num.intsT m) = some [⟨kindI m, [1, (m.length : Int)], m, []⟩] ∧ Fine [⟨kindI m, [1, (m.length : Int)], m, []⟩] ∧
      numO [1, (m.length : Int)] (m.map ofD) = some ⟨kindI m, [1, (m.length : Int)], m, []⟩ := by
  obtain ⟨k1, k2⟩ := right_2 (n := m.length) (by omega)
  obtain ⟨a1, a2, a3⟩ := of_all hi
  have e := least_ints (s := [1, (m.length : Int)]) hi
  have h1 : OkOne (leastN [1, (m.length : Int)] (m.map ofD)) (leastN [1, (m.length : Int)] (m.map ofD)) :=
    nums_one k1 (by rw [k2, List.length_map]) a3 (fun x hx => by
      obtain ⟨y, hy, rfl⟩ := List.mem_map.1 hx
      exact ⟨(of_facts (hi y hy)).1, (of_facts (hi y hy)).2.1⟩) (by rw [List.length_map]; omega)
  rw [e] at h1
  refine ⟨?_, one_fine h1, ?_⟩
  · have h2 := one_back h1
    rw [ints_note (by rintro rfl; simp at h0), if_neg (by simp)] at h2
    rw [← h2]
    unfold shpT
    rw [ints_two]
  · unfold numO
    rw [if_pos ⟨k1, by rw [k2, List.length_map], a3⟩, e]

set_option maxHeartbeats 12800000 in
theorem lrows_walk (A1 A2 : Option Addr) (n1 c1 n2 c2 : Nat) (l m : List Int) (w : World) (h1 : l.length = n1) (hc1 : n1 ≤ c1) (hl : Nums .i64 w w.heap.size A1 l) (h2 : m.length = n2) (hc2 : n2 ≤ c2) (hm : Nums .i64 w w.heap.size A2 m)
    (hi : ∀ x ∈ m, In x) (hb1 : n1 ≤ 9223372036854775807) (hb2 : n2 ≤ 9223372036854775807) (hL : LaidN w) :
    Calls Tryz.prog 7 #[.slice A1 n1 c1, .slice A2 n2 c2] w (Says true w) := by
  have HS := Lib.hid (small_any w hL)
  by_cases a1 : n1 < 1
  · have a1i : ((n1 : Nat) : Int) < 1 := by omega
    clear h1 h2 hl hm hi hL
    go_enter Tryz.func7, Tryz.ntmps7
    go_wp2_with fail
    refine (HS.out).mono ?_
    rintro x w1 ⟨rfl, hg⟩
    have HG1 := Lib.hid hg
    clear hg HS
    go_wp2
    go_ret
    exact ⟨rfl, HG1.out⟩
  have a1i : ¬ ((n1 : Nat) : Int) < 1 := by omega
  by_cases a2 : 100 < n1
  · have a2i : 100 < ((n1 : Nat) : Int) := by omega
    clear h1 h2 hl hm hi hL
    go_enter Tryz.func7, Tryz.ntmps7
    go_wp2_with fail
    refine (HS.out).mono ?_
    rintro x w1 ⟨rfl, hg⟩
    have HG1 := Lib.hid hg
    clear hg HS
    go_wp2
    go_ret
    exact ⟨rfl, HG1.out⟩
  have a2i : ¬ 100 < ((n1 : Nat) : Int) := by omega
  by_cases a3 : n2 < 1
  · have a3i : ((n2 : Nat) : Int) < 1 := by omega
    clear h1 h2 hl hm hi hL
    go_enter Tryz.func7, Tryz.ntmps7
    go_wp2_with fail
    refine (HS.out).mono ?_
    rintro x w1 ⟨rfl, hg⟩
    have HG1 := Lib.hid hg
    clear hg HS
    go_wp2
    go_ret
    exact ⟨rfl, HG1.out⟩
  have a3i : ¬ ((n2 : Nat) : Int) < 1 := by omega
  by_cases a4 : 100 < n2
  · have a4i : 100 < ((n2 : Nat) : Int) := by omega
    clear h1 h2 hl hm hi hL
    go_enter Tryz.func7, Tryz.ntmps7
    go_wp2_with fail
    refine (HS.out).mono ?_
    rintro x w1 ⟨rfl, hg⟩
    have HG1 := Lib.hid hg
    clear hg HS
    go_wp2
    go_ret
    exact ⟨rfl, HG1.out⟩
  have a4i : ¬ 100 < ((n2 : Nat) : Int) := by omega
  have r1 := row_signs (l := l) (by omega) (by omega)
  have r2 := row_signs_fine (l := l) (by omega)
  obtain ⟨r3, r4, r5⟩ := row_nums (m := m) (by omega) (by omega) hi
  have hq := quote_len l
  have hp1 := Num.ints_len (xs := [(n1 : Int)]) (fun x hx => by rw [List.mem_singleton.1 hx]; constructor <;> omega)
  have hp2 := Num.ints_len (xs := [(n2 : Int)]) (fun x hx => by rw [List.mem_singleton.1 hx]; constructor <;> omega)
  have hp3 := Num.ints_len hi
  simp only [List.length_cons, List.length_nil] at hp1 hp2
  rw [h1] at r1 r2 hq
  rw [h2] at r3 r4 r5 hp3
  have HIN1 : Hid (∀ x ∈ [(n1 : Int)], In x) := Lib.hid (fun x hx => by rw [List.mem_singleton.1 hx]; constructor <;> omega)
  have HIN2 : Hid (∀ x ∈ [(n2 : Int)], In x) := Lib.hid (fun x hx => by rw [List.mem_singleton.1 hx]; constructor <;> omega)
  have HI := Lib.hid hi
  have H1 := Lib.hid h1
  have H2 := Lib.hid h2
  have HNL := Lib.hid hl
  have HNM := Lib.hid hm
  have HL := Lib.hid hL
  have HTQ := Lib.hid (fun W (h : Nums .i64 W W.heap.size A1 l) => Quo.text_any A1 n1 c1 l W H1.out (by omega) h)
  have HTN := Lib.hid (fun A c W (h : Nums .i64 W W.heap.size A [(n1 : Int)]) (hp : Num.Pows W) => Num.ints_any A 1 c [(n1 : Int)] W rfl (by decide) h HIN1.out hp)
  have HTK := Lib.hid (fun A c W (h : Nums .i64 W W.heap.size A [(n2 : Int)]) (hp : Num.Pows W) => Num.ints_any A 1 c [(n2 : Int)] W rfl (by decide) h HIN2.out hp)
  have HTM := Lib.hid (fun W (h : Nums .i64 W W.heap.size A2 m) (hp : Num.Pows W) => Num.ints_any A2 n2 c2 m W H2.out (by omega) h HI.out hp)
  have HR2 := Lib.hid r2
  have HR4 := Lib.hid r4
  have HR5 := Lib.hid r5
  have HP1 := Lib.hid (fun W hW => pparse_any (Num.intsT [(n1 : Int)] ++ [226, 141, 180] ++ Quo.textQ l) (by simp only [List.length_append, List.length_cons, List.length_nil]; omega) W hW)
  have HP2 := Lib.hid (fun W hW => pparse_any ([49, 32] ++ Num.intsT [(n2 : Int)] ++ [226, 141, 180] ++ Num.intsT m) (by simp only [List.length_append, List.length_cons, List.length_nil]; omega) W hW)
  rw [r1] at HP1
  rw [r3] at HP2
  simp only [List.append_assoc, List.cons_append, List.nil_append] at HP1 HP2
  clear r1 r2 r3 r4 r5 h1 h2 hl hm hi hL
  generalize Num.intsT [(n1 : Int)] = P1 at *
  generalize Num.intsT [(n2 : Int)] = P2 at *
  generalize Num.intsT m = P3 at *
  generalize Quo.textQ l = Q at *
  have e1 := Quo.str_app P1 [226, 141, 180]
  have e2 := Quo.str_app (P1 ++ [226, 141, 180]) Q
  have z1 : ¬ 140737488355327 < P1.length + 3 := by omega
  have z2 : ¬ 140737488355327 < P1.length + 3 + Q.length := by omega
  have z3 : ¬ 140737488355327 < 2 + P2.length := by omega
  have z4 : ¬ 140737488355327 < 2 + P2.length + 3 := by omega
  have z5 : ¬ 140737488355327 < 2 + P2.length + 3 + P3.length := by omega
  have HB := Lib.hid (show n1 ≤ 100 ∧ n2 ≤ 100 from ⟨by omega, by omega⟩)
  clear hq hp1 hp2 hp3 a1 a2 a3 a4 hb1 hb2
  obtain ⟨β, hβ⟩ : ∃ β, l.all Quo.signZ = β := ⟨_, rfl⟩
  rw [hβ] at HTQ HP1 HR2
  clear hβ
  go_enter Tryz.func7, Tryz.ntmps7
  go_wp2_with fail
  refine (HS.out).mono ?_
  rintro x w1 ⟨rfl, hg⟩
  have HG := Lib.hid hg
  clear hg HS
  go_wp2_with fail
  refine (HTQ.out _ (HNL.out.grow HG.out)).mono ?_
  rintro x w2 ⟨rfl, hg⟩
  replace HG := Lib.hid (HG.out.trans hg)
  clear hg HTQ
  obtain ⟨y2, hy2⟩ : ∃ y, w2.heap.size = y := ⟨_, rfl⟩
  have hnc := nums_lit w2 [(n1 : Int)]
  have hgc : Grow w2 (w2.alloc (.cells #[.int .i64 n1] 3)) := grow_new _ _
  rw [hy2] at hnc
  have HN1 := Lib.hid (HTN.out (some ⟨y2, 0, none⟩) 1 _ hnc (HL.out.grow (HG.out.trans hgc)).1.pows)
  replace HG := Lib.hid (HG.out.trans hgc)
  clear hnc hgc
  go_wp2_with fail
  refine (HN1.out).mono ?_
  rintro x w3 ⟨rfl, hg⟩
  replace HG := Lib.hid (HG.out.trans hg)
  clear hg HN1 hy2
  obtain ⟨S1, hS1⟩ : ∃ S1, (⟨(P1 ++ 226 :: 141 :: 180 :: Q).toArray⟩ : ByteArray) = S1 := ⟨_, rfl⟩
  rw [hS1] at HP1
  go_wp2_with fail
  clear hS1 e1 e2 z1 z2
  refine (HP1.out _ (HL.out.grow HG.out)).mono ?_
  rintro x w4 hx
  obtain ⟨AP, nP, cP, rfl, hg, hpp⟩ : ∃ AP nP cP, x = .returned (.tuple #[.slice AP nP cP, .bool β]) ∧ Grow w3 w4 ∧ (β = true → nP = 1 ∧ Nodes w4 w4.heap.size AP [⟨3, [(n1 : Int)], l, []⟩]) := by
    cases β with
    | false =>
      rw [if_neg (by simp)] at hx
      obtain ⟨hg, rfl⟩ := hx
      exact ⟨none, 0, 0, rfl, hg, fun h => by cases h⟩
    | true =>
      rw [if_pos rfl] at hx
      obtain ⟨hg, AP, cP, rfl, hcP, hns⟩ := hx
      exact ⟨AP, 1, cP, rfl, hg, fun _ => ⟨rfl, hns.nodes⟩⟩
  replace HG := Lib.hid (HG.out.trans hg)
  have HPP := Lib.hid hpp
  clear hg HP1 hx hpp
  obtain ⟨y4, hy4⟩ : ∃ y, w4.heap.size = y := ⟨_, rfl⟩
  go_upto_region 6 with fail
  go_cut [68] from 52 to 68 (fun z wx => z = .bool false ∧ Hid (Grow w4 wx))
  case first =>
    cases β with
    | false =>
      go_wp2
      go_meet
      exact ⟨rfl, Lib.hid (Grow.refl _)⟩
    | true =>
      obtain ⟨rfl, hpn⟩ := HPP.out rfl
      have HPN := Lib.hid hpn
      have hnc := nums_lit w4 [(n1 : Int)]
      have hgc : Grow w4 (w4.alloc (.cells #[.int .i64 n1] 3)) := grow_new _ _
      rw [hy4] at hnc
      have hsz : (w4.alloc (.cells #[.int .i64 n1] 3)).heap.size = y4 + 1 := by simp [hy4]
      have hrow := node_lit (w4.alloc (.cells #[.int .i64 n1] 3)) 3 (some ⟨y4, 0, none⟩) 1 1 A1 n1 c1 none 0 0 ⟨3, [(n1 : Int)], l, []⟩ rfl rfl H1.out rfl ⟨hnc, HNL.out.grow (HG.out.trans hgc), Decs.none_⟩
      have hgr := grow_new (w4.alloc (.cells #[.int .i64 n1] 3)) (.cells #[.int .i64 3, .slice (some ⟨y4, 0, none⟩) 1 1, .slice A1 n1 c1, .slice none 0 0] 34)
      rw [hsz] at hrow
      have HF := Lib.hid (HR2.out rfl)
      have HSM := Lib.hid (rsame_says (xs := [⟨3, [(n1 : Int)], l, []⟩]) (ys := [⟨3, [(n1 : Int)], l, []⟩]) (by simp) AP (some ⟨y4 + 1, 0, none⟩) 1 1 cP 1 _ rfl rfl HF.out HF.out (HPN.out.grow (hgc.trans hgr)) hrow)
      have HGG := Lib.hid (hgc.trans hgr)
      clear hpn hnc hrow hgc hgr hsz HF
      go_wp2_with fail
      refine (HSM.out).mono ?_
      rintro x v2 ⟨rfl, hg⟩
      have HG6 := Lib.hid (HGG.out.trans hg)
      clear hg HSM
      go_wp2
      go_meet
      exact ⟨rfl, HG6⟩
  case rest =>
    obtain ⟨rfl, hgc⟩ := hcut
    replace HG := Lib.hid (HG.out.trans hgc.out)
    clear hgc hy4 HPP HR2
    obtain ⟨kd, hkd⟩ : ∃ kd, kindI m = kd := ⟨_, rfl⟩
    rw [hkd] at HR4 HR5 HP2
    clear hkd
    obtain ⟨B, hB⟩ : ∃ B, wc.heap.size = B := ⟨_, rfl⟩
    have HBE := Lib.hid hB
    clear hB
    go_wp2
    go_loopg [10, 11] n2 (fun g s10 s11 wr => ∃ (j : Nat) (v : Value), j ≤ n2 ∧ g = n2 - j ∧ s11 = .int .i64 j ∧ v = s10 ∧ Hid (OwnD B v ((m.take j).map ofD) wr) ∧ Hid (Below B wc wr))
    case atStart => exact ⟨0, _, Nat.zero_le _, rfl, rfl, rfl, Lib.hid (ownD_nil _ _), Lib.hid (Below.refl _ _)⟩
    case round =>
      obtain ⟨j, v, hj, rfl, rfl, rfl, HO, HGR⟩ := hrel
      have HZ : Hid (B ≤ wr.heap.size) := Lib.hid (by rw [← HBE.out]; exact HGR.out.size)
      have HGW := Lib.hid (HG.out.trans (grow_z HBE.out HGR.out))
      by_cases hjl : j < n2
      · have hji : ((j : Nat) : Int) < ((n2 : Nat) : Int) := by omega
        have hjx : j < m.length := by rw [H2.out]; exact hjl
        obtain ⟨b', off', rfl, hb', hcl⟩ := (HNM.out.grow HGW.out) (by omega)
        have hc := hcl j hjx
        have HMS := Lib.hid (map_step hjx)
        have HIJ : Hid (In (m.getD j 0)) := Lib.hid (by
          rw [show m.getD j 0 = m[j] by simp [List.getD, hjx]]
          exact HI.out _ (List.getElem_mem hjx))
        have HLJ : Hid (((m.take j).map ofD).length ≤ 1100000) := Lib.hid (by
          have := HB.out
          rw [List.length_map, List.length_take]
          omega)
        clear hcl hb' hjx
        generalize m.getD j 0 = y at *
        have HC := Lib.hid (fun W => of_any y W HIJ.out)
        have HOFD : Hid (ofD y = (norm y 0).1) := Lib.hid rfl
        generalize norm y 0 = ny at *
        obtain ⟨⟨q, r⟩, b0⟩ := ny
        dsimp only at HC HOFD
        go_wp2_with fail
        refine (HC.out _).mono ?_
        rintro e w3 ⟨rfl, hg3⟩
        have HG3 := Lib.hid (hg3.trans (grow_new w3 (.cells #[.int .i64 q, .int .i64 r] 41)))
        have HO3 := Lib.hid (HO.out.grow HG3.out)
        have HL3 := Lib.hid (decs_lit1 w3 q r)
        have HZ3 := Lib.hid (Nat.le_trans HZ.out HG3.out.size)
        have HGB3 := Lib.hid (Below.trans HGR.out (Below.mono HG3.out HZ.out))
        clear hg3 HC HO
        go_wp2_with (at_builtin; refine wpList_more_decs rfl _ _ rfl B v _ (some ⟨w3.heap.size, 0, none⟩) 1 1 [(q, r)] rfl HO3.out rfl rfl HL3.out (by have := HLJ.out; omega) HZ3.out ?_; intro v' w5 HO5 HB5 HA5)
        go_roundg (n2 - (j + 1))
        case rel => exact ⟨j + 1, v', by omega, rfl, by go_num, rfl, Lib.hid (by rw [HMS.out, HOFD.out]; exact HO5.out), Lib.hid (Below.trans HGB3.out HB5.out)⟩
        case measure => omega
      · obtain rfl : n2 = j := by omega
        have HXA := Lib.hid (show m.take n2 = m from List.take_of_length_le (by rw [H2.out]; exact Nat.le_refl _))
        rw [HXA.out] at HO
        obtain ⟨D, cD, hv, hcD, hnd⟩ := HO.out.new
        rw [show (m.map ofD).length = n2 by rw [List.length_map]; exact H2.out] at hv hcD
        subst hv
        have HND := Lib.hid hnd.decs
        clear hnd HO HXA HGR
        have hjj : ¬ ((n2 : Nat) : Int) < ((n2 : Nat) : Int) := by omega
        obtain ⟨y, hy⟩ : ∃ y, wr.heap.size = y := ⟨_, rfl⟩
        have hnc := nums_lit wr [1, (n2 : Int)]
        have hgc : Grow wr (wr.alloc (.cells #[.int .i64 1, .int .i64 n2] 3)) := grow_new _ _
        rw [hy] at hnc
        have HC := Lib.hid (tnumbers_any (some ⟨y, 0, none⟩) 2 2 [1, (n2 : Int)] D n2 cD (m.map ofD) _ rfl (by decide) hnc (by rw [List.length_map]; exact H2.out) (by have := HB.out; omega) (fun x hx => by
          obtain ⟨z, hz, rfl⟩ := List.mem_map.1 hx
          exact ⟨(of_facts (HI.out z hz)).1, (of_facts (HI.out z hz)).2.1⟩) (HND.out.grow hgc))
        replace HG := Lib.hid (HGW.out.trans hgc)
        rw [HR5.out] at HC
        clear hnc hgc HND HGW HBE HZ
        go_wp2_with fail
        refine (HC.out).mono ?_
        rintro x w4 hx
        obtain ⟨nd, β', B1, e1, B2, e2, B3, e3, rfl, hβ, k1, k2, k3, hg2⟩ := one_node hx
        have hb' : β' = true := by
          cases β' with
          | true => rfl
          | false => cases hβ
        subst hb'
        have hnd : nd = ⟨kd, [1, (n2 : Int)], m, []⟩ := by simpa using hβ.symm
        subst hnd
        replace HG := Lib.hid (HG.out.trans hg2)
        have HN4 := Lib.hid (show IsNd w4 w4.heap.size B1 B2 B3 ⟨kd, [1, (n2 : Int)], m, []⟩ from ⟨k1.nums, k2.nums, k3.decs⟩)
        clear hx hβ k1 k2 k3 hg2 HC hy
        dsimp only at *
        simp only [H2.out, List.length_cons, List.length_nil]
        obtain ⟨y4, hy4⟩ : ∃ y, w4.heap.size = y := ⟨_, rfl⟩
        have hbx := boxN_new w4 kd B1 2 e1 B2 n2 e2 B3 0 e3
        rw [hy4] at hbx
        have hgn := grow_new w4 (.cells #[.int .i64 kd, .slice B1 2 e1, .slice B2 n2 e2, .slice B3 0 e3] 34)
        have hsz : (w4.alloc (.cells #[.int .i64 kd, .slice B1 2 e1, .slice B2 n2 e2, .slice B3 0 e3] 34)).heap.size = y4 + 1 := by simp [hy4]
        have hnc := nums_lit (w4.alloc (.cells #[.int .i64 kd, .slice B1 2 e1, .slice B2 n2 e2, .slice B3 0 e3] 34)) [(n2 : Int)]
        rw [hsz] at hnc
        have hgc : Grow (w4.alloc (.cells #[.int .i64 kd, .slice B1 2 e1, .slice B2 n2 e2, .slice B3 0 e3] 34)) ((w4.alloc (.cells #[.int .i64 kd, .slice B1 2 e1, .slice B2 n2 e2, .slice B3 0 e3] 34)).alloc (.cells #[.int .i64 n2] 3)) := grow_new _ _
        replace HG := Lib.hid (HG.out.trans (hgn.trans hgc))
        have HK := Lib.hid (HTK.out (some ⟨y4 + 1, 0, none⟩) 1 _ hnc (HL.out.grow HG.out).1.pows)
        have HBX := Lib.hid (BoxN.grow hbx hgc)
        replace HN4 := Lib.hid (HN4.out.grow (hgn.trans hgc))
        have e1' := Quo.str_app [49, 32] P2
        have e2' := Quo.str_app (49 :: 32 :: P2) [226, 141, 180]
        have e3' := Quo.str_app (49 :: 32 :: (P2 ++ [226, 141, 180])) P3
        obtain ⟨S2, hS2⟩ : ∃ S2, (⟨(49 :: 32 :: (P2 ++ 226 :: 141 :: 180 :: P3)).toArray⟩ : ByteArray) = S2 := ⟨_, rfl⟩
        rw [hS2] at HP2
        clear hbx hgn hsz hnc hgc HTN HTK HR5
        go_wp2_with fail
        refine (HK.out).mono ?_
        rintro x w5 ⟨rfl, hg⟩
        replace HG := Lib.hid (HG.out.trans hg)
        replace HBX := Lib.hid (BoxN.grow HBX.out hg)
        replace HN4 := Lib.hid (HN4.out.grow hg)
        have HM := Lib.hid (HTM.out w5 (HNM.out.grow HG.out) (HL.out.grow HG.out).1.pows)
        clear hg HK hy4
        go_wp2_with fail
        refine (HM.out).mono ?_
        rintro x w6 ⟨rfl, hg⟩
        replace HG := Lib.hid (HG.out.trans hg)
        replace HBX := Lib.hid (BoxN.grow HBX.out hg)
        replace HN4 := Lib.hid (HN4.out.grow hg)
        clear hg HM HTM
        go_wp2_with fail
        clear hS2 e1' e2' e3' z3 z4 z5
        refine (HP2.out _ (HL.out.grow HG.out)).mono ?_
        rintro x w7 ⟨hg, AE, cE, rfl, hcE, hns⟩
        have HPN := Lib.hid hns.nodes
        replace HG := Lib.hid (HG.out.trans hg)
        replace HBX := Lib.hid (BoxN.grow HBX.out hg)
        replace HN4 := Lib.hid (HN4.out.grow hg)
        simp only [List.length_cons, List.length_nil] at hcE ⊢
        clear hg HP2 hns
        obtain ⟨y7, hy7⟩ : ∃ y, w7.heap.size = y := ⟨_, rfl⟩
        have b0 := HBX.out.at0
        have b1 := HBX.out.at1
        have b2 := HBX.out.at2
        have b3 := HBX.out.at3
        have hrow := node_lit w7 kd B1 2 e1 B2 n2 e2 B3 0 e3 ⟨kd, [1, (n2 : Int)], m, []⟩ rfl rfl H2.out rfl HN4.out
        rw [hy7] at hrow
        have hgr := grow_new w7 (.cells #[.int .i64 kd, .slice B1 2 e1, .slice B2 n2 e2, .slice B3 0 e3] 34)
        have HSM := Lib.hid (rsame_says (xs := [⟨kd, [1, (n2 : Int)], m, []⟩]) (ys := [⟨kd, [1, (n2 : Int)], m, []⟩]) (by simp) AE (some ⟨y7, 0, none⟩) 1 1 cE 1 _ rfl rfl HR4.out HR4.out (HPN.out.grow hgr) hrow)
        replace HG := Lib.hid (HG.out.trans hgr)
        clear hrow hgr HPN
        go_wp2_with fail
        refine (HSM.out).mono ?_
        rintro x v2 ⟨rfl, hg⟩
        replace HG := Lib.hid (HG.out.trans hg)
        clear hg HSM b0 b1 b2 b3 hy7
        go_wp2
        go_ret
        exact ⟨rfl, HG.out⟩
end Go.Proofs.YteoogioanjkacaaGreatDoor
