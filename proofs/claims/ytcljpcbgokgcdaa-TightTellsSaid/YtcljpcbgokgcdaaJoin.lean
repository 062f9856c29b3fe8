/-
  What tight.join comes to: one node of all kids, if they are numbers alone, or signs alone.
-/
import Derived.Test.YtcljpcbgokgcdaaLeast
import Derived.Test.YtcljpcbgokgcdaaAsks
import Derived.Laws.EntriesVeiled
namespace Go.Proofs.Ytcljpcbgokgcdaa
open Go.RowKit Go.Lib
set_option linter.unusedSimpArgs false
set_option linter.unusedVariables false

def zeroNd : Value := .agg #[.int .i64 0, .slice none 0 0, .slice none 0 0, .slice none 0 0]
def OneP (T : Nat → Prop) (o : Option Nd) (w : World) (e : Ending) (w' : World) : Prop :=
  Grow w w' ∧ match o with
    | none => e = .returned (.tuple #[.agg #[.int .i64 0, .slice none 0 0, .slice none 0 0, .slice none 0 0], .bool false])
    | some m => ∃ v, e = .returned (.tuple #[v, .bool true]) ∧ NdV T w' v m
theorem OneP.no {T : Nat → Prop} {o : Option Nd} {w w' : World} (h : o = none) (hg : Grow w w') : OneP T o w (.returned (.tuple #[.agg #[.int .i64 0, .slice none 0 0, .slice none 0 0, .slice none 0 0], .bool false])) w' := by subst h; exact ⟨hg, rfl⟩
theorem OneP.yes {T : Nat → Prop} {o : Option Nd} {m : Nd} {v : Value} {w w' : World} (h : o = some m) (hg : Grow w w') (hv : NdV T w' v m) : OneP T o w (.returned (.tuple #[v, .bool true])) w' := by subst h; exact ⟨hg, v, rfl, hv⟩
theorem NumsT.lt {T : Nat → Prop} {w : World} {A : Option Addr} {xs : List Int} (h : NumsT T w A xs) : NumsT (fun b => T b ∧ b < w.heap.size) w A xs := fun hn => by
  obtain ⟨b, off, e, hb, hc⟩ := h hn
  exact ⟨b, off, e, ⟨hb, block_lt_of_cell (hc 0 hn)⟩, hc⟩
theorem DecsT.lt {T : Nat → Prop} {w : World} {A : Option Addr} {ds : List (Int × Int)} (h : DecsT T w A ds) : DecsT (fun b => T b ∧ b < w.heap.size) w A ds := fun hn => by
  obtain ⟨b, off, e, hb, hc⟩ := h hn
  exact ⟨b, off, e, ⟨hb, block_lt_of_cell (hc 0 hn).1⟩, hc⟩
/-- what the join reads, at any later world -/
def JoinW (A : Option Addr) (n c kb pb rb : Nat) (ks : List Nd) (w : World) : Prop :=
  w.heap[kb]? = some (.cells #[.slice A n c] 22 (0, 0)) ∧ SignVar w pb ∧ Nodes w w.heap.size A ks ∧ BoxN w rb 0 none 0 0 none 0 0 none 0 0
theorem JoinW.grow {A : Option Addr} {n c kb pb rb : Nat} {ks : List Nd} {w w' : World} (h : JoinW A n c kb pb rb ks w) (hg : Grow w w') : JoinW A n c kb pb rb ks w' :=
  ⟨(hg.block kb (heap_lt h.1)).trans h.1, h.2.1.grow hg, h.2.2.1.grow hg, h.2.2.2.grow hg⟩

set_option maxRecDepth 10000 in
set_option maxHeartbeats 3200000 in
theorem join_any (T : Nat → Prop) (A1 : Option Addr) (n1 c1 : Nat) (s : List Int) (A : Option Addr) (n c : Nat) (ks : List Nd) (w : World) (hT : ∀ b, w.heap.size ≤ b → T b) (hs : s.length = n1) (hsh : NumsT T w A1 s)
    (hn : ks.length = n) (hnb : n ≤ 1100000) (hvs : Vals ks) (hvl : (valsK ks).length ≤ 1100000) (hil : (intsK ks).length ≤ 1100000) (hvi : ∀ x ∈ valsK ks, In x.1 ∧ In x.2) (hns : Nodes w w.heap.size A ks) :
    Calls Try.prog 76 #[.slice A1 n1 c1, .slice A n c] w (OneP T (joinO s ks) w) := by
  have hmf : ∀ (fn : Fn) (first cap : Array Value) (w : World), (Instr.makeFunc fn first cap).run Try.prog w = .ok (.func fn first cap) w := fun _ _ _ _ => rfl
  obtain ⟨kb, hkb⟩ : ∃ kb, w.heap.size = kb := ⟨_, rfl⟩
  let wA := ((w.alloc (.cells #[.slice A n c] 22)).alloc (.cells #[.int .i64 0, .slice none 0 0, .slice none 0 0, .slice none 0 0] 30)).alloc (.cells #[.func (.func 87) #[] #[]] 88)
  have hgA : Grow w wA := grow_new3 _ _ _ _
  have hs1 : (w.alloc (.cells #[.slice A n c] 22)).heap.size = kb + 1 := by simp [hkb]
  have hs2 : ((w.alloc (.cells #[.slice A n c] 22)).alloc (.cells #[.int .i64 0, .slice none 0 0, .slice none 0 0, .slice none 0 0] 30)).heap.size = kb + 2 := by simp [hkb]
  have hJA : JoinW A n c kb (kb + 2) (kb + 1) ks wA := by
    refine ⟨?_, ?_, hns.grow hgA, ?_⟩
    · have h := heap_alloc_new w (.cells #[.slice A n c] 22)
      rw [hkb] at h
      exact ((grow_new2 _ _ _).block kb (heap_lt h)).trans h
    · have h := heap_alloc_new ((w.alloc (.cells #[.slice A n c] 22)).alloc (.cells #[.int .i64 0, .slice none 0 0, .slice none 0 0, .slice none 0 0] 30)) (.cells #[.func (.func 87) #[] #[]] 88)
      rw [hs2] at h
      exact h
    · have h := boxN_new (w.alloc (.cells #[.slice A n c] 22)) 0 none 0 0 none 0 0 none 0 0
      rw [hs1] at h
      exact h.grow (grow_new _ _)
  have HD := Lib.hid (fun W (h : JoinW A n c kb (kb + 2) (kb + 1) ks W) => has_deep_any A n c kb ks W hn hnb h.2.2.1 (cell_of_row W kb 0 _ _ (0, 0) h.1))
  have HS := Lib.hid (fun W (h : JoinW A n c kb (kb + 2) (kb + 1) ks W) => has_sign_any A n c kb ks W hn hnb h.2.2.1 (cell_of_row W kb 0 _ _ (0, 0) h.1))
  have HM := Lib.hid (fun W (h : JoinW A n c kb (kb + 2) (kb + 1) ks W) => has_num_any A n c kb ks W hn hnb h.2.2.1 (cell_of_row W kb 0 _ _ (0, 0) h.1) (kb + 2) h.2.1)
  have HSG := Lib.hid (fun W (h : JoinW A n c kb (kb + 2) (kb + 1) ks W) => signs_any A n c ks W hn hnb hil h.2.2.1)
  have HNM := Lib.hid (fun W (h : JoinW A n c kb (kb + 2) (kb + 1) ks W) => numbers_any A n c ks W hn hnb hvl hvs h.2.2.1)
  have HLS := Lib.hid (fun (W : World) (A' : Option Addr) (c' : Nat) (hg : Grow w W) (hd : DecsT (fun b => T b ∧ ¬ b = kb + 1) W A' (valsK ks)) (hk : kb + 1 < W.heap.size) => least_any (fun b => T b ∧ ¬ b = kb + 1) A1 n1 c1 s A' (valsK ks).length c' (valsK ks) W (fun b hb => ⟨hT b (Nat.le_trans hg.size hb), by omega⟩) hs ((hsh.lt.keep (T' := fun b => T b ∧ ¬ b = kb + 1) (w' := w) (fun b hb => ⟨⟨hb.1, by have := hb.2; omega⟩, rfl⟩)).grow hg) rfl hvl hvi hd)
  have HJA := Lib.hid hJA
  have HGA := Lib.hid hgA
  have HSH := Lib.hid hsh
  have HSL := Lib.hid hs
  have HKB := Lib.hid hkb
  have HTT := Lib.hid hT
  have HJO : Hid (joinO s ks = if (ks.any deepB || (ks.any signN && ks.any numN)) = true then none else if ks.any signN = true then some ⟨3, s, intsK ks, []⟩ else some (leastN s (valsK ks))) := Lib.hid rfl
  clear hJA hgA hn hnb hvs hvl hil hvi hns hT hsh hs
  generalize ks.any deepB = α at *
  generalize ks.any signN = σ at *
  generalize ks.any numN = ν at *
  cases α with
  | true =>
    have HO : Hid (joinO s ks = none) := Lib.hid (by rw [HJO.out]; simp)
    clear HJO HS HM HSG HNM HLS
    go_enter Try.func76, Try.ntmps76
    go_wp2_with fail
    refine (HD.out _ HJA.out).mono ?_
    rintro e w2 ⟨rfl, hw2⟩
    have HJ2 := Lib.hid (HJA.out.grow hw2)
    have HG2 := Lib.hid (HGA.out.trans hw2)
    have hp2 := HJ2.out.2.1.at_
    clear hw2
    have hbx := HJ2.out.2.2.2
    have f0 := hbx.froz 0
    have f1 := hbx.froz 1
    have f2 := hbx.froz 2
    have f3 := hbx.froz 3
    have d0 := hbx.at0
    have d1 := hbx.at1
    have d2 := hbx.at2
    have d3 := hbx.at3
    clear hbx
    go_wp2
    have hle : w.heap.size ≤ kb + 1 := by rw [HKB.out]; exact Nat.le_succ _
    have hb := HJ2.out.2.2.2.store 0 none none none 0 0 0 0 0 0
    refine bodyPost_ret (v := .tuple #[.agg #[.int .i64 0, .slice none 0 0, .slice none 0 0, .slice none 0 0], .bool false]) (by simp [results, Try.results76, go_sem, hb.at0, hb.at1, hb.at2, hb.at3]) rfl ?_
    exact OneP.no HO.out ((((HG2.out.put hle 0 (.int .i64 0)).put hle 1 (.slice none 0 0)).put hle 2 (.slice none 0 0)).put hle 3 (.slice none 0 0))
  | false =>
    cases σ with
    | true =>
      cases ν with
      | true =>
        have HO : Hid (joinO s ks = none) := Lib.hid (by rw [HJO.out]; simp)
        clear HJO HSG HNM HLS
        go_enter Try.func76, Try.ntmps76
        go_wp2_with fail
        refine (HD.out _ HJA.out).mono ?_
        rintro e w2 ⟨rfl, hw2⟩
        have HJ2 := Lib.hid (HJA.out.grow hw2)
        have HG2 := Lib.hid (HGA.out.trans hw2)
        have hp2 := HJ2.out.2.1.at_
        clear hw2
        go_wp2_with fail
        refine (HS.out _ HJ2.out).mono ?_
        rintro e w3 ⟨rfl, hw3⟩
        have HJ3 := Lib.hid (HJ2.out.grow hw3)
        have HG3 := Lib.hid (HG2.out.trans hw3)
        have hp3 := HJ3.out.2.1.at_
        clear hw3
        go_wp2_with fail
        refine (HM.out _ HJ3.out).mono ?_
        rintro e w4 ⟨rfl, hw4⟩
        have HJ4 := Lib.hid (HJ3.out.grow hw4)
        have HG4 := Lib.hid (HG3.out.trans hw4)
        have hp4 := HJ4.out.2.1.at_
        clear hw4
        have hbx := HJ4.out.2.2.2
        have f0 := hbx.froz 0
        have f1 := hbx.froz 1
        have f2 := hbx.froz 2
        have f3 := hbx.froz 3
        have d0 := hbx.at0
        have d1 := hbx.at1
        have d2 := hbx.at2
        have d3 := hbx.at3
        clear hbx
        go_wp2
        have hle : w.heap.size ≤ kb + 1 := by rw [HKB.out]; exact Nat.le_succ _
        have hb := HJ4.out.2.2.2.store 0 none none none 0 0 0 0 0 0
        refine bodyPost_ret (v := .tuple #[.agg #[.int .i64 0, .slice none 0 0, .slice none 0 0, .slice none 0 0], .bool false]) (by simp [results, Try.results76, go_sem, hb.at0, hb.at1, hb.at2, hb.at3]) rfl ?_
        exact OneP.no HO.out ((((HG4.out.put hle 0 (.int .i64 0)).put hle 1 (.slice none 0 0)).put hle 2 (.slice none 0 0)).put hle 3 (.slice none 0 0))
      | false =>
        have HO : Hid (joinO s ks = some ⟨3, s, intsK ks, []⟩) := Lib.hid (by rw [HJO.out]; simp)
        clear HJO HNM HLS
        go_enter Try.func76, Try.ntmps76
        go_wp2_with fail
        refine (HD.out _ HJA.out).mono ?_
        rintro e w2 ⟨rfl, hw2⟩
        have HJ2 := Lib.hid (HJA.out.grow hw2)
        have HG2 := Lib.hid (HGA.out.trans hw2)
        have hp2 := HJ2.out.2.1.at_
        clear hw2
        go_wp2_with fail
        refine (HS.out _ HJ2.out).mono ?_
        rintro e w3 ⟨rfl, hw3⟩
        have HJ3 := Lib.hid (HJ2.out.grow hw3)
        have HG3 := Lib.hid (HG2.out.trans hw3)
        have hp3 := HJ3.out.2.1.at_
        clear hw3
        go_wp2_with fail
        refine (HM.out _ HJ3.out).mono ?_
        rintro e w4 ⟨rfl, hw4⟩
        have HJ4 := Lib.hid (HJ3.out.grow hw4)
        have HG4 := Lib.hid (HG3.out.trans hw4)
        have hp4 := HJ4.out.2.1.at_
        clear hw4
        go_wp2_with fail
        refine (HS.out _ HJ4.out).mono ?_
        rintro e w5 ⟨rfl, hw5⟩
        have HJ5 := Lib.hid (HJ4.out.grow hw5)
        have HG5 := Lib.hid (HG4.out.trans hw5)
        have hp5 := HJ5.out.2.1.at_
        clear hw5
        have hk5 := cell_of_row w5 kb 0 _ _ (0, 0) HJ5.out.1
        go_wp2_with fail
        refine (HSG.out _ HJ5.out).mono ?_
        rintro e w6 ⟨A6, c6, rfl, hc6, hn6, hw6⟩
        have HJ6 := Lib.hid (HJ5.out.grow hw6)
        have HG6 := Lib.hid (HG5.out.trans hw6)
        have HN6 := Lib.hid hn6
        have HZ5 := Lib.hid HG5.out.size
        have HJ5R : Hid (kb + 1 < w5.heap.size) := Lib.hid HJ5.out.2.2.2.lt
        clear hw6 hn6 hk5 hc6
        obtain ⟨ni, hni⟩ : ∃ ni, (intsK ks).length = ni := ⟨_, rfl⟩
        have HNI := Lib.hid hni
        rw [hni]
        clear hni
        have hbx := HJ6.out.2.2.2
        have f0 := hbx.froz 0
        have f1 := hbx.froz 1
        have f2 := hbx.froz 2
        have f3 := hbx.froz 3
        have d0 := hbx.at0
        have d1 := hbx.at1
        have d2 := hbx.at2
        have d3 := hbx.at3
        clear hbx
        go_wp2
        have hle : w.heap.size ≤ kb + 1 := by rw [HKB.out]; exact Nat.le_succ _
        have hb := HJ6.out.2.2.2.store 3 A1 A6 none n1 c1 ni c6 0 0
        have hg := (((HG6.out.put hle 0 (.int .i64 3)).put hle 1 (.slice A1 n1 c1)).put hle 2 (.slice A6 ni c6)).put hle 3 (.slice none 0 0)
        have hnn : NumsT T _ A6 (intsK ks) := HN6.out.keep fun b hb => ⟨HTT.out b (Nat.le_trans HZ5.out hb.1), (kept_store (w := w6) (b := kb + 1) (.int .i64 3) (.slice A1 n1 c1) (.slice A6 ni c6) (.slice none 0 0)).block b hb.2 (by have h1 := HJ5R.out; have h2 := hb.1; show ¬ b = kb + 1; omega)⟩
        refine bodyPost_ret (v := .tuple #[.agg #[.int .i64 3, .slice A1 n1 c1, .slice A6 ni c6, .slice none 0 0], .bool true]) (by simp [results, Try.results76, go_sem, hb.at0, hb.at1, hb.at2, hb.at3]) rfl ?_
        exact OneP.yes HO.out hg ⟨A1, c1, A6, c6, none, 0, by rw [HSL.out, HNI.out]; rfl, HSH.out.grow hg, hnn, DecsT.nil_⟩
    | false =>
      have HO : Hid (joinO s ks = some (leastN s (valsK ks))) := Lib.hid (by rw [HJO.out]; simp)
      clear HJO HSG HM
      go_enter Try.func76, Try.ntmps76
      go_wp2_with fail
      refine (HD.out _ HJA.out).mono ?_
      rintro e w2 ⟨rfl, hw2⟩
      have HJ2 := Lib.hid (HJA.out.grow hw2)
      have HG2 := Lib.hid (HGA.out.trans hw2)
      have hp2 := HJ2.out.2.1.at_
      clear hw2
      go_wp2_with fail
      refine (HS.out _ HJ2.out).mono ?_
      rintro e w3 ⟨rfl, hw3⟩
      have HJ3 := Lib.hid (HJ2.out.grow hw3)
      have HG3 := Lib.hid (HG2.out.trans hw3)
      have hp3 := HJ3.out.2.1.at_
      clear hw3
      go_wp2_with fail
      refine (HS.out _ HJ3.out).mono ?_
      rintro e w4 ⟨rfl, hw4⟩
      have HJ4 := Lib.hid (HJ3.out.grow hw4)
      have HG4 := Lib.hid (HG3.out.trans hw4)
      have hp4 := HJ4.out.2.1.at_
      clear hw4
      have hk5 := cell_of_row w4 kb 0 _ _ (0, 0) HJ4.out.1
      go_wp2_with fail
      refine (HNM.out _ HJ4.out).mono ?_
      rintro e w5 ⟨A5, c5, rfl, hc5, hn5, hw5⟩
      have HJ5 := Lib.hid (HJ4.out.grow hw5)
      have HG5 := Lib.hid (HG4.out.trans hw5)
      have HL5 := Lib.hid (HLS.out w5 A5 c5 HG5.out (hn5.keep fun b hb => ⟨⟨HTT.out b (Nat.le_trans HG4.out.size hb.1), by have h1 := HJ4.out.2.2.2.lt; have h2 := hb.1; show ¬ b = kb + 1; omega⟩, rfl⟩) (by have := HJ5.out.2.2.2.lt; omega))
      clear hw5 hn5 hk5 hc5 HNM HLS
      generalize (valsK ks).length = nv at *
      go_wp2_with fail
      refine (HL5.out).mono ?_
      rintro e w6 ⟨v6, rfl, ⟨B1, k1, B2, k2, B3, k3, rfl, m1, m2, m3⟩, hw6⟩
      have HJ6 := Lib.hid (HJ5.out.grow hw6)
      have HG6 := Lib.hid (HG5.out.trans hw6)
      have HR6 : Hid (kb + 1 < w6.heap.size) := Lib.hid HJ6.out.2.2.2.lt
      clear hw6 HL5
      generalize leastN s (valsK ks) = m at *
      have M1 := Lib.hid m1
      have M2 := Lib.hid m2
      have M3 := Lib.hid m3
      clear m1 m2 m3
      obtain ⟨l1, hl1⟩ : ∃ l1, m.shp.length = l1 := ⟨_, rfl⟩
      obtain ⟨l2, hl2⟩ : ∃ l2, m.ints.length = l2 := ⟨_, rfl⟩
      obtain ⟨l3, hl3⟩ : ∃ l3, m.decs.length = l3 := ⟨_, rfl⟩
      have HLE := Lib.hid (show (Value.agg #[.int .i64 m.kind, .slice B1 l1 k1, .slice B2 l2 k2, .slice B3 l3 k3]) = .agg #[.int .i64 m.kind, .slice B1 m.shp.length k1, .slice B2 m.ints.length k2, .slice B3 m.decs.length k3] by rw [hl1, hl2, hl3])
      rw [hl1, hl2, hl3]
      clear hl1 hl2 hl3
      have hbx := HJ6.out.2.2.2
      have f0 := hbx.froz 0
      have f1 := hbx.froz 1
      have f2 := hbx.froz 2
      have f3 := hbx.froz 3
      have d0 := hbx.at0
      have d1 := hbx.at1
      have d2 := hbx.at2
      have d3 := hbx.at3
      clear hbx
      go_wp2
      have hle : w.heap.size ≤ kb + 1 := by rw [HKB.out]; exact Nat.le_succ _
      have hb := HJ6.out.2.2.2.store m.kind B1 B2 B3 l1 k1 l2 k2 l3 k3
      have hg := (((HG6.out.put hle 0 (.int .i64 m.kind)).put hle 1 (.slice B1 l1 k1)).put hle 2 (.slice B2 l2 k2)).put hle 3 (.slice B3 l3 k3)
      have hkp : ∀ b, (T b ∧ ¬ b = kb + 1) ∧ b < w6.heap.size → T b ∧ ((((w6.setCell ⟨kb + 1, 0, none⟩ (.int .i64 m.kind)).setCell ⟨kb + 1, 1, none⟩ (.slice B1 l1 k1)).setCell ⟨kb + 1, 2, none⟩ (.slice B2 l2 k2)).setCell ⟨kb + 1, 3, none⟩ (.slice B3 l3 k3)).heap[b]? = w6.heap[b]? := fun b hb => ⟨hb.1.1, (kept_store (w := w6) (b := kb + 1) _ _ _ _).block b hb.2 hb.1.2⟩
      refine bodyPost_ret (v := .tuple #[.agg #[.int .i64 m.kind, .slice B1 l1 k1, .slice B2 l2 k2, .slice B3 l3 k3], .bool true]) (by simp [results, Try.results76, go_sem, hb.at0, hb.at1, hb.at2, hb.at3]) rfl ?_
      exact OneP.yes HO.out hg ⟨B1, k1, B2, k2, B3, k3, HLE.out, M1.out.lt.keep hkp, M2.out.lt.keep hkp, M3.out.lt.keep hkp⟩
end Go.Proofs.Ytcljpcbgokgcdaa
