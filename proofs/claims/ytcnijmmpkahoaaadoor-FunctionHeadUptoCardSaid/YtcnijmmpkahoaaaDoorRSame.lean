/-
  What the document's own all comes to, called with any head. Nothing is claimed here by itself.
-/
import Derived.Test.YtcnijmmpkahoaaaDoorParseP
namespace Go.Proofs.YtcnijmmpkahoaaaDoor
open Go.RowKit Go.Lib
set_option linter.unusedSimpArgs false
set_option linter.unusedVariables false
set_option maxRecDepth 10000

def Rows1 (ls : List (List UInt8)) (w : World) (e : Ending) (w' : World) : Prop := ∃ A n c, e = .returned (.slice A n c) ∧ ls.length = n ∧ Strs w' w'.heap.size A ls ∧ Grow w w'
set_option maxHeartbeats 3200000 in
theorem rall_any (h : Hd) (A : Option Addr) (n c : Nat) (w : World) (k : HdIn w A n c h) : Calls Tryd.prog 92 #[hdV h A n c] w (Rows1 (allH h) w) := by
  have hg1 := grow_new w (.cells #[.string ⟨h.res.toArray⟩, .string ⟨h.left.toArray⟩, .string ⟨h.name.toArray⟩, .string ⟨h.right.toArray⟩, .string ⟨h.f.toArray⟩, .string ⟨h.g.toArray⟩, .slice A n c] 33)
  have HG1 := Lib.hid hg1
  have HB1 := Lib.hid (boxH_new w h A n c)
  have HK1 := Lib.hid (k.grow hg1)
  obtain ⟨nb, hnb⟩ : ∃ nb, w.heap.size = nb := ⟨_, rfl⟩
  have HNB := Lib.hid hnb
  rw [hnb] at HB1
  have HE := Lib.hid (show allH h = [h.res, h.left, h.name, h.right, h.f, h.g] ++ h.locs from rfl)
  unfold hdV strv
  clear k hg1 hnb
  go_enter Tryd.func92, Tryd.ntmps92
  go_upto_region 1 with fail
  rw [HNB.out]
  generalize w.alloc (.cells #[.string ⟨h.res.toArray⟩, .string ⟨h.left.toArray⟩, .string ⟨h.name.toArray⟩, .string ⟨h.right.toArray⟩, .string ⟨h.f.toArray⟩, .string ⟨h.g.toArray⟩, .slice A n c] 33) = w1 at HG1 HB1 HK1 ⊢
  have hg2 := grow_new w1 (.cells #[.string ⟨h.res.toArray⟩, .string ⟨h.left.toArray⟩, .string ⟨h.name.toArray⟩, .string ⟨h.right.toArray⟩, .string ⟨h.f.toArray⟩, .string ⟨h.g.toArray⟩] 9)
  have HO2 : Hid (OwnS w1.heap.size (.slice (some ⟨w1.heap.size, 0, none⟩) 6 6) [h.res, h.left, h.name, h.right, h.f, h.g] (w1.alloc (.cells #[.string ⟨h.res.toArray⟩, .string ⟨h.left.toArray⟩, .string ⟨h.name.toArray⟩, .string ⟨h.right.toArray⟩, .string ⟨h.f.toArray⟩, .string ⟨h.g.toArray⟩] 9))) := Lib.hid (ownS_lit w1 [h.res, h.left, h.name, h.right, h.f, h.g] (by simp))
  have HB2 := Lib.hid (HB1.out.grow hg2)
  have HS2 := Lib.hid (HK1.out.strs.grow hg2)
  have HZ2 : Hid (w1.heap.size ≤ (w1.alloc (.cells #[.string ⟨h.res.toArray⟩, .string ⟨h.left.toArray⟩, .string ⟨h.name.toArray⟩, .string ⟨h.right.toArray⟩, .string ⟨h.f.toArray⟩, .string ⟨h.g.toArray⟩] 9)).heap.size) := Lib.hid hg2.size
  have HG2 := Lib.hid hg2
  have HLT : Hid ([h.res, h.left, h.name, h.right, h.f, h.g].length + h.locs.length ≤ 1000000000) := Lib.hid (by have := HK1.out.top; rw [HK1.out.len]; simp; omega)
  have b0 := HB1.out.at0
  have b1 := HB1.out.at1
  have b2 := HB1.out.at2
  have b3 := HB1.out.at3
  have b4 := HB1.out.at4
  have b5 := HB1.out.at5
  have b6 := HB2.out.at6
  clear hg2
  go_wp2_with (at_builtin; refine wpList_append_any rfl _ _ rfl w1.heap.size _ [h.res, h.left, h.name, h.right, h.f, h.g] h.locs A n c rfl HO2.out rfl HK1.out.len HK1.out.none HS2.out HLT.out HZ2.out ?_; intro v3 w3 HO3 HB3)
  have HGR := Lib.hid (show Grow w w3 from Below.trans HG1.out (Below.mono (Below.trans (show Below w1.heap.size w1 _ from HG2.out) HB3) HG1.out.size))
  rw [← HE.out] at HO3
  obtain ⟨A3, c3, rfl, _, _, hs3⟩ := HO3.strs'
  have HS3 := Lib.hid hs3
  clear hs3 HO3 HB3
  go_ret
  exact ⟨A3, (allH h).length, c3, rfl, rfl, HS3.out, HGR.out⟩

end Go.Proofs.YtcnijmmpkahoaaaDoor
