/-
  What the document's own values comes to: a node's numbers, the exact ones first.
-/
import Derived.Test.YtcljpcbgokgcdaaLooks
import Derived.Deep.CutBlock
import Derived.Deep.DeepCutAuto
namespace Go.Proofs.Ytcljpcbgokgcdaa
open Go.RowKit Go.Lib
set_option linter.unusedSimpArgs false
set_option linter.unusedVariables false

def valsR (x : Nd) : List (Int × Int) := x.decs ++ x.ints.map ofD
theorem ownD_lit00 {B : Nat} (w : World) (hB : B ≤ w.heap.size) : OwnD B (.slice (some ⟨w.heap.size, 0, none⟩) 0 0) [] (w.alloc (.cells #[] 42)) :=
  ⟨rfl, .inr ⟨w.heap.size, 0, #[], rfl, hB, heap_alloc_new w _, Nat.le_refl _, Nat.zero_le _, rfl, rfl⟩⟩

set_option maxRecDepth 10000 in
set_option maxHeartbeats 3200000 in
theorem rvalues_any (x : Nd) (A1 A2 A3 : Option Addr) (c1 c2 c3 : Nat) (w : World) (hf : Fit x) (hv : ∀ y ∈ x.ints, In y) (hnd : IsNd w w.heap.size A1 A2 A3 x) :
    Calls Try.prog 50 #[.agg #[.int .i64 x.kind, .slice A1 x.shp.length c1, .slice A2 x.ints.length c2, .slice A3 x.decs.length c3]] w (NewDP (valsR x) w) := by
  have HIN := Lib.hid hv
  have HVX : Hid (valsR x = x.decs ++ x.ints.map ofD) := Lib.hid rfl
  have hl2 := hf.2.2.1
  have hl3 := hf.2.2.2.1
  have HNX := Lib.hid hnd.2.1
  have HDX := Lib.hid hnd.2.2
  have HB0 := Lib.hid (boxN_new w x.kind A1 x.shp.length c1 A2 x.ints.length c2 A3 x.decs.length c3)
  have HG0 := Lib.hid (grow_new w (.cells #[.int .i64 x.kind, .slice A1 x.shp.length c1, .slice A2 x.ints.length c2, .slice A3 x.decs.length c3] 30))
  clear hf hnd hv
  obtain ⟨kk, sh, xs, ds⟩ := x
  dsimp only at *
  obtain ⟨li, hli⟩ : ∃ li, xs.length = li := ⟨_, rfl⟩
  have HLI := Lib.hid hli
  obtain ⟨ld, hld⟩ : ∃ ld, ds.length = ld := ⟨_, rfl⟩
  have HLD := Lib.hid hld
  rw [hli] at HB0 HG0 hl2 ⊢
  rw [hld] at HB0 HG0 hl3 ⊢
  clear hli hld
  generalize sh.length = l1 at *
  obtain ⟨B, hB⟩ : ∃ B, w.heap.size = B := ⟨_, rfl⟩
  have HBE := Lib.hid hB
  rw [hB] at HB0
  clear hB
  go_enter Try.func50, Try.ntmps50
  go_upto_region 1 with fail
  obtain ⟨w1, hw1⟩ : ∃ w1, w1 = w.alloc (.cells #[.int .i64 kk, .slice A1 l1 c1, .slice A2 li c2, .slice A3 ld c3] 30) := ⟨_, rfl⟩
  rw [← hw1] at HB0 HG0 ⊢
  clear hw1
  have b3 := HB0.out.at3
  rw [← HBE.out] at b3
  have hg2 := grow_new w1 (.cells #[] 42)
  have HE := Lib.hid (ownD_lit00 (B := B) w1 (by rw [← HBE.out]; exact HG0.out.size))
  have HDS := Lib.hid ((HDX.out.grow HG0.out).grow hg2)
  have HG2 := Lib.hid (HG0.out.trans hg2)
  have HZ2 : Hid (B ≤ (w1.alloc (.cells #[] 42)).heap.size) := Lib.hid (by rw [← HBE.out]; exact HG2.out.size)
  have HB2 := Lib.hid (HB0.out.grow hg2)
  have b3' := HB2.out.at3
  rw [← HBE.out] at b3'
  have HBL := Lib.hid HB0.out.lt
  clear hg2
  go_wp2_with (at_builtin; refine wpList_more_decs rfl _ _ rfl B (.slice (some ⟨w1.heap.size, 0, none⟩) 0 0) [] A3 ld c3 ds rfl HE.out rfl HLD.out HDS.out (by simp; omega) HZ2.out ?_; intro v2 w2 HO2 HBe2 HA2)
  have HO3 : Hid (OwnD B v2 (ds ++ (xs.take 0).map ofD) w2) := Lib.hid (by simpa using HO2.out)
  have HG3 : Hid (Below B w w2) := Lib.hid (Below.trans (by have h := HG2.out; unfold Grow at h; rw [HBE.out] at h; exact h) HBe2.out)
  have HB3 : Hid (BoxN w2 B kk A1 l1 c1 A2 li c2 A3 ld c3) := Lib.hid ((HA2.out.1 B HB2.out.lt (fun h => by have h' : w1.heap.size = B := Option.some.inj h; have := HBL.out; omega)).trans HB2.out)
  have HU3 : Hid (∀ q, v2.ownBlock = some q → q ≠ B) := Lib.hid (fun q hq e => by
    rcases HA2.out.2 with h | h
    · rw [h] at hq; have h' : w1.heap.size = q := Option.some.inj hq; have := HBL.out; omega
    · rw [h] at hq; cases hq; have := HB2.out.lt; omega)
  clear HO2 HBe2 HA2 b3 b3' HE HDS HG2 HZ2 HB2 HBL HB0 HG0
  go_loopg [3, 4] li (fun g s3 s4 wr => ∃ (j : Nat) (u : Value), j ≤ li ∧ g = li - j ∧ s4 = .int .i64 j ∧ u = s3 ∧ Hid (OwnD B u (ds ++ (xs.take j).map ofD) wr) ∧ Hid (Below B w wr) ∧
    Hid (BoxN wr B kk A1 l1 c1 A2 li c2 A3 ld c3) ∧ Hid (∀ q, u.ownBlock = some q → q ≠ B))
  case atStart => exact ⟨0, v2, Nat.zero_le _, rfl, rfl, rfl, HO3, HG3, HB3, HU3⟩
  case round =>
    obtain ⟨j, u, hj, rfl, rfl, rfl, HOJ, HGJ, HBJ, HUJ⟩ := hrel
    have HZJ : Hid (B ≤ wr.heap.size) := Lib.hid (by rw [← HBE.out]; exact HGJ.out.size)
    have b2 := HBJ.out.at2
    rw [← HBE.out] at b2
    by_cases hjl : j < li
    · have hjli : ((j : Nat) : Int) < ((li : Nat) : Int) := by omega
      have hjx : j < xs.length := by rw [HLI.out]; exact hjl
      have hNX := HNX.out
      rw [HBE.out] at hNX
      obtain ⟨b', off', rfl, hb', hcl⟩ := (hNX.below HGJ.out) (by omega)
      have hc := hcl j hjx
      have HMS := Lib.hid (map_step hjx)
      have HIJ : Hid (In (xs.getD j 0)) := Lib.hid (by
        rw [show xs.getD j 0 = xs[j] by simp [List.getD, hjx]]
        exact HIN.out _ (List.getElem_mem hjx))
      have HLJ : Hid ((ds ++ (xs.take j).map ofD).length ≤ 2200000) := Lib.hid (by
        rw [List.length_append, List.length_map, List.length_take, HLD.out, HLI.out]
        omega)
      clear hcl hb' hjx hNX
      generalize xs.getD j 0 = y at *
      have HC := Lib.hid (fun W => rof_any y W HIJ.out)
      have HOFD : Hid (ofD y = (norm y 0).1) := Lib.hid rfl
      generalize norm y 0 = ny at *
      obtain ⟨⟨q, r⟩, b0⟩ := ny
      dsimp only at HC HOFD
      go_wp2_with fail
      refine (HC.out _).mono ?_
      rintro e w3 ⟨rfl, hg3⟩
      have HG3 := Lib.hid (hg3.trans (grow_new w3 (.cells #[.int .i64 q, .int .i64 r] 42)))
      have HO3 := Lib.hid (HOJ.out.grow HG3.out)
      have HL3 := Lib.hid (decs_lit1 w3 q r)
      have HB3 := Lib.hid (HBJ.out.grow HG3.out)
      have HZ3 := Lib.hid (Nat.le_trans HZJ.out HG3.out.size)
      have HGB3 := Lib.hid (Below.trans HGJ.out (Below.mono HG3.out HZJ.out))
      clear hg3 HC HOJ HBJ b2
      go_wp2_with (at_builtin; refine wpList_more_decs rfl _ _ rfl B u _ (some ⟨w3.heap.size, 0, none⟩) 1 1 [(q, r)] rfl HO3.out rfl rfl HL3.out (by have := HLJ.out; omega) HZ3.out ?_; intro v' w5 HO5 HB5 HA5)
      go_roundg (li - (j + 1))
      case rel =>
        refine ⟨j + 1, v', by omega, rfl, by go_num, rfl, Lib.hid ?_, Lib.hid (Below.trans HGB3.out HB5.out), Lib.hid ?_, Lib.hid ?_⟩
        · rw [HMS.out, HOFD.out, ← List.append_assoc]
          exact HO5.out
        · exact (HA5.out.1 B HB3.out.lt (fun h => HUJ.out B h rfl)).trans HB3.out
        · intro q' hq' e'
          rcases HA5.out.2 with h | h
          · exact HUJ.out q' (h ▸ hq') e'
          · rw [h] at hq'
            cases hq'
            have := HB3.out.lt
            omega
      case measure => omega
    · obtain rfl : li = j := by omega
      have hjj : ¬ ((li : Nat) : Int) < ((li : Nat) : Int) := by omega
      have HXA := Lib.hid (show xs.take li = xs from List.take_of_length_le (by rw [HLI.out]; exact Nat.le_refl _))
      rw [HXA.out] at HOJ
      go_wp2
      go_ret
      obtain ⟨A', c', hv, hc, hN⟩ := HOJ.out.new
      exact ⟨A', c', by rw [HVX.out, ← hv]; rfl, by rw [HVX.out]; exact hc, by rw [HVX.out, HBE.out]; exact hN, show Below w.heap.size w _ by rw [HBE.out]; exact HGJ.out⟩
end Go.Proofs.Ytcljpcbgokgcdaa
