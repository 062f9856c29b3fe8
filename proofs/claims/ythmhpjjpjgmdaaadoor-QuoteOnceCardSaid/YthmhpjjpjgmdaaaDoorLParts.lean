/-
  QuoteParts comes to true, whatever it is called with.
-/
import Derived.Test.YthmhpjjpjgmdaaaDoorSmall
import Derived.Deep.CutBlock
import Derived.Deep.DeepCutAuto
namespace Go.Proofs.YthmhpjjpjgmdaaaDoor
open Go.RowKit Go.Lib
set_option linter.unusedSimpArgs false
set_option linter.unusedVariables false

theorem textQ_inQ {xs : List Int} (h : xs.all signZ = true) : textQ xs = inQ (natsZ xs) := by unfold textQ; rw [if_pos h]
/-- what two rows of signs, written behind one another, are read as -/
theorem parts_read {xs ys : List Int} (hx : xs.all signZ = true) (hy : ys.all signZ = true) : mkL (readQ (textQ xs ++ textQ ys)) = (xs ++ [39] ++ ys, [], true) := by
  have h39 : ([39] : List Int).all signZ = true := by decide
  have hall : ∀ c ∈ natsZ xs ++ 39 :: natsZ ys, isSign c = true := by
    intro c hc
    rcases List.mem_append.1 hc with h | h
    · exact nats_sign hx c h
    · rcases List.mem_cons.1 h with rfl | h
      · decide
      · exact nats_sign hy c h
  rw [textQ_inQ hx, textQ_inQ hy, inQ_join]
  have h := read_of hall (r := []) (by simp)
  rw [List.append_nil] at h
  rw [h]
  show (intsZ (natsZ xs ++ 39 :: natsZ ys), ([] : List UInt8), true) = _
  rw [ints_append, show intsZ (39 :: natsZ ys) = 39 :: intsZ (natsZ ys) from rfl, ints_nats hx, ints_nats hy]
  simp
theorem textQ_len (xs : List Int) : (textQ xs).length ≤ 4 * xs.length + 2 := by
  unfold textQ
  split
  · have := qT_le (natsZ xs)
    rw [inQ_len]
    rw [nats_len] at this
    omega
  · simp

set_option maxRecDepth 100000 in
set_option maxHeartbeats 3200000 in
theorem lparts_walk (Aa Ab : Option Addr) (na ca nb cb : Nat) (xs ys : List Int) (w : World) (hL : Laid w) (h1 : xs.length = na) (h2 : ys.length = nb) (m1 : na ≤ 9223372036854775807) (m2 : nb ≤ 9223372036854775807)
    (r1 : Nums .i64 w w.heap.size Aa xs) (r2 : Nums .i64 w w.heap.size Ab ys) :
    Calls Tryd.prog 6 #[.slice Aa na ca, .slice Ab nb cb] w (Fine w) := by
  have HS := Lib.hid (fun W h => small_any W h)
  have HL := Lib.hid hL
  have HR1 := Lib.hid r1
  have HR2 := Lib.hid r2
  have HN1 := Lib.hid h1
  have HN2 := Lib.hid h2
  clear hL r1 r2 h1 h2
  by_cases k1 : 100 < na
  · have k1i : (100 : Int) < ((na : Nat) : Int) := by omega
    go_enter Tryd.func6, Tryd.ntmps6
    go_wp2_with fail
    refine (HS.out _ HL.out).mono ?_
    rintro x w1 ⟨rfl, hg⟩
    have HG1 := Lib.hid hg
    clear hg HS
    go_wp2
    go_ret
    exact ⟨rfl, HG1.out⟩
  have k1i : ¬ (100 : Int) < ((na : Nat) : Int) := by omega
  by_cases k2 : 100 < nb
  · have k2i : (100 : Int) < ((nb : Nat) : Int) := by omega
    go_enter Tryd.func6, Tryd.ntmps6
    go_wp2_with fail
    refine (HS.out _ HL.out).mono ?_
    rintro x w1 ⟨rfl, hg⟩
    have HG1 := Lib.hid hg
    clear hg HS
    go_wp2
    go_ret
    exact ⟨rfl, HG1.out⟩
  have k2i : ¬ (100 : Int) < ((nb : Nat) : Int) := by omega
  have HT1 := Lib.hid (fun W h => text_any Aa na ca xs W HN1.out (by omega) h)
  have HT2 := Lib.hid (fun W h => text_any Ab nb cb ys W HN2.out (by omega) h)
  have L1 := textQ_len xs
  have L2 := textQ_len ys
  rw [HN1.out] at L1
  rw [HN2.out] at L2
  have HRD : Hid (xs.all signZ = true → ys.all signZ = true → ∀ W, Laid W → Calls Tryd.prog 11 #[.string ⟨(textQ xs ++ textQ ys).toArray⟩] W (ReadP (xs ++ [39] ++ ys) [] true W)) :=
    Lib.hid (fun hx hy W hW => read_says (parts_read hx hy) (by rw [List.length_append]; omega) W hW)
  have hcat := str_app (textQ xs) (textQ ys)
  have hs1 : ¬ 9223372036854775807 < (textQ xs).length + (textQ ys).length := by omega
  obtain ⟨c, hc⟩ : ∃ c, xs.all signZ = c := ⟨_, rfl⟩
  obtain ⟨d, hd⟩ : ∃ d, ys.all signZ = d := ⟨_, rfl⟩
  rw [hc] at HT1 HRD
  rw [hd] at HT2 HRD
  clear hc hd L1 L2
  generalize textQ xs = S at *
  generalize textQ ys = T at *
  go_enter Tryd.func6, Tryd.ntmps6
  go_wp2_with fail
  refine (HS.out _ HL.out).mono ?_
  rintro x w1 ⟨rfl, hg⟩
  have HG1 := Lib.hid hg
  clear hg HS
  go_wp2_with fail
  refine (HT1.out _ (HR1.out.grow HG1.out)).mono ?_
  rintro x w2 ⟨rfl, hg⟩
  have HG2 := Lib.hid (HG1.out.trans hg)
  clear hg HT1 HG1
  go_wp2_with fail
  refine (HT2.out _ (HR2.out.grow HG2.out)).mono ?_
  rintro x w3 ⟨rfl, hg⟩
  have HG3 := Lib.hid (HG2.out.trans hg)
  clear hg HT2 HG2
  cases c with
  | false =>
    clear HRD
    go_wp2
    go_ret
    exact ⟨rfl, HG3.out⟩
  | true =>
    cases d with
    | false =>
      clear HRD
      go_wp2
      go_ret
      exact ⟨rfl, HG3.out⟩
    | true =>
      have HRD' := Lib.hid (HRD.out rfl rfl)
      clear HRD
      go_wp2_with fail
      refine (HRD'.out _ (HL.out.grow HG3.out)).mono ?_
      rintro x w4 ⟨A, cc, rfl, hcc, hnl, hg⟩
      have HG4 := Lib.hid (HG3.out.trans hg)
      have HNL := Lib.hid hnl
      obtain ⟨N, hN⟩ : ∃ N, (xs ++ [39] ++ ys).length = N := ⟨_, rfl⟩
      have HNN := Lib.hid hN
      have hNl : N ≤ 1000 := by rw [← hN, List.length_append, List.length_append, HN1.out, HN2.out]; simp; omega
      rw [hN]
      clear hg HRD' HG3 hnl hN hcc
      have HE0 : Hid (OwnI w4.heap.size (.slice (some ⟨w4.heap.size, 0, none⟩) 0 0) [] (w4.alloc (.cells #[] 3))) := Lib.hid (own_empty w4 0 3 1)
      have HGE := Lib.hid (grow_new w4 (.cells #[] 3))
      have HC3 := Lib.hid (HR1.out.grow (HG4.out.trans HGE.out))
      go_wp2_with (first
        | (at_builtin; refine wpList_more_ints rfl _ _ rfl w4.heap.size (.slice (some ⟨w4.heap.size, 0, none⟩) 0 0) [] Aa na ca xs rfl HE0.out rfl HN1.out HC3.out (by simp; omega) HGE.out.size ?_; intro u1 y1 HO1 HB1; have HY1 := Lib.hid (show Grow w4 y1 from Below.trans HGE.out (HB1.out)); have HY1n := Lib.hid (grow_new y1 (.cells #[.int .i64 39] 3)); have HO1n := Lib.hid (HO1.out.grow HY1n.out))
        | (at_builtin; refine wpList_more_ints rfl _ _ rfl w4.heap.size u1 ([] ++ xs) (some ⟨y1.heap.size, 0, none⟩) 1 1 [39] rfl HO1n.out rfl rfl (nums_lit1 _ _ _) (by have := HN1.out; simp; omega) (Nat.le_trans HY1.out.size HY1n.out.size) ?_; intro u2 y2 HO2 HB2; have HY2 := Lib.hid (show Grow w4 y2 from Below.trans (HY1.out.trans HY1n.out) (HB2.out)); have HC4 := Lib.hid (HR2.out.grow (HG4.out.trans HY2.out)))
        | (at_builtin; refine wpList_more_ints rfl _ _ rfl w4.heap.size u2 ([] ++ xs ++ [39]) Ab nb cb ys rfl HO2.out rfl HN2.out HC4.out (by have := HN1.out; simp; omega) HY2.out.size ?_; intro u3 y3 HO3 HB3; have HY3 := Lib.hid (show Grow w4 y3 from Below.trans HY2.out (HB3.out)); obtain ⟨Ah, ch, e, hch, hN⟩ := HO3.out.nums; subst e))
      have HG5 := Lib.hid (HG4.out.trans HY3.out)
      have HX : Hid ([] ++ xs ++ [39] ++ ys = xs ++ [39] ++ ys) := Lib.hid (by simp)
      rw [HX.out] at hN
      rw [show xs.length + (ys.length + 1) = N by have := HNN.out; simp at this; omega]
      have HSM := Lib.hid (same_eq A Ah N cc ch (xs ++ [39] ++ ys) y3 HNN.out (by omega) (HNL.out.grow HY3.out) hN)
      clear hN hch HO1 HO1n HB1 HO2 HB2 HO3 HB3 HY1 HY1n HY2 HY3 HC4 HC3 HE0 HGE HR1 HR2 HG4 HNL
      refine (HSM.out).mono ?_
      rintro x w6 ⟨rfl, hg⟩
      have HG6 := Lib.hid (HG5.out.trans hg)
      clear hg HSM HG5
      go_wp2
      go_ret
      exact ⟨rfl, HG6.out⟩
end Go.Proofs.YthmhpjjpjgmdaaaDoor
