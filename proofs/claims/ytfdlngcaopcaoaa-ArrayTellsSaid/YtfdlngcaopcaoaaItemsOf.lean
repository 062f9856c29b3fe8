/-
  What array.itemsOf comes to, called with any node.
-/
import Derived.Test.YtfdlngcaopcaoaaFill
namespace Go.Proofs.Ytfdlngcaopcaoaa
open Go.RowKit Go.Lib
set_option linter.unusedSimpArgs false
set_option linter.unusedVariables false

theorem cnt_le1 (xs : List Int) : cnt xs ≤ 1048576 := by
  unfold cnt
  split
  · exact (right_iff.1 (by assumption)).2.2
  · omega
theorem itm_le (n : Nd) : itm n ≤ 1048576 := by
  unfold itm
  split
  · exact cnt_le1 _
  · omega
def SaysN (c : Nat) (β : Bool) (w : World) (e : Ending) (w' : World) : Prop := e = .returned (.tuple #[.int .i64 (c : Nat), .bool β]) ∧ Grow w w'

set_option maxRecDepth 10000 in
set_option maxHeartbeats 1600000 in
theorem itemsOf_any (n : Nd) (A1 A2 A3 : Option Addr) (c1 c2 c3 : Nat) (w : World) (hf : Fit n) (hn : IsNd w w.heap.size A1 A2 A3 n) :
    Calls Try.prog 50 #[.agg #[.int .i64 n.kind, .slice A1 n.shp.length c1, .slice A2 n.ints.length c2, .slice A3 n.decs.length c3]] w (SaysN (itm n) (okB n) w) := by
  obtain ⟨C, hC⟩ : ∃ C, cnt n.shp = C := ⟨_, rfl⟩
  obtain ⟨β, hβ⟩ : ∃ β, rightB n.shp = β := ⟨_, rfl⟩
  obtain ⟨γ, hγ⟩ : ∃ γ, fillB n C = γ := ⟨_, rfl⟩
  have hC1 : C ≤ 1048576 := hC ▸ cnt_le1 _
  have hm : n.shp.length ≤ 9223372036854775807 := by have := hf.2.1; omega
  have HCO := Lib.hid (fun W h => count_any A1 n.shp.length c1 n.shp W rfl hm h)
  rw [hC, hβ] at HCO
  have HFI := Lib.hid (fun W h => filled_any n C A1 A2 A3 c1 c2 c3 W hC1 hf h)
  rw [hγ] at HFI
  have HO : Hid (okB n = (β && γ)) := Lib.hid (by unfold okB; rw [hβ, hC, hγ])
  have HI : Hid (itm n = if (β && γ) = true then C else 0) := Lib.hid (by unfold itm; rw [HO.out, hC])
  have HN := Lib.hid hn
  clear hC hβ hγ hf hn
  generalize okB n = ω at *
  generalize itm n = ι at *
  have HB := Lib.hid (boxN_new w n.kind A1 n.shp.length c1 A2 n.ints.length c2 A3 n.decs.length c3)
  have HG := Lib.hid (grow_new w (.cells #[.int .i64 n.kind, .slice A1 n.shp.length c1, .slice A2 n.ints.length c2, .slice A3 n.decs.length c3] 32))
  generalize n.shp.length = l1 at *
  generalize n.ints.length = l2 at *
  generalize n.decs.length = l3 at *
  generalize n.kind = k at *
  go_enter Try.func50, Try.ntmps50
  go_wp2_with fail
  refine (HCO.out _ (HN.out.1.grow HG.out)).mono ?_
  rintro e w2 ⟨rfl, hw2⟩
  have HG2 := Lib.hid (show Grow w w2 by rw [hw2]; exact HG.out)
  have HB2 : BoxN w2 w.heap.size k A1 l1 c1 A2 l2 c2 A3 l3 c3 := by rw [hw2]; exact HB.out
  have g0 := HB2.at0
  have g1 := HB2.at1
  have g2 := HB2.at2
  have g3 := HB2.at3
  have HB3 := Lib.hid HB2
  clear hw2 HB2 HCO
  cases β with
  | false =>
    have HI' : Hid (ι = 0) := Lib.hid (by rw [HI.out]; rfl)
    have HO' : Hid (ω = false) := Lib.hid (by rw [HO.out]; rfl)
    clear HI HO
    go_wp2
    go_ret2
    exact ⟨by rw [HI'.out, HO'.out]; rfl, HG2.out⟩
  | true =>
    go_wp2_with fail
    refine (HFI.out _ (HN.out.grow HG2.out)).mono ?_
    rintro e w3 ⟨rfl, hw3⟩
    have HG3 := Lib.hid (HG2.out.trans hw3)
    clear hw3 HFI
    cases γ with
    | false =>
      have HI' : Hid (ι = 0) := Lib.hid (by rw [HI.out]; rfl)
      have HO' : Hid (ω = false) := Lib.hid (by rw [HO.out]; rfl)
      clear HI HO
      go_wp2
      go_ret2
      exact ⟨by rw [HI'.out, HO'.out]; rfl, HG3.out⟩
    | true =>
      have HI' : Hid (ι = C) := Lib.hid (by rw [HI.out]; rfl)
      have HO' : Hid (ω = true) := Lib.hid (by rw [HO.out]; rfl)
      clear HI HO
      go_wp2
      go_ret2
      exact ⟨by rw [HI'.out, HO'.out]; rfl, HG3.out⟩
end Go.Proofs.Ytfdlngcaopcaoaa
