/-
  What header.fresh comes to, called with any head whose locals may be written over. Nothing is claimed here by itself.
-/
import Derived.Test.YtcnijmmpkahoaaaDoorGuessP
import Derived.Test.YtcnijmmpkahoaaaDoorTextP
namespace Go.Proofs.YtcnijmmpkahoaaaDoor
open Go.RowKit Go.Lib
set_option linter.unusedSimpArgs false
set_option linter.unusedVariables false
set_option maxRecDepth 10000

/-- a store of what a cell holds turns nothing -/
theorem setCell_id {w : World} {a : Addr} {v : Value} (h : w.cell? a = some v) : w.setCell a v = w := by
  unfold World.cell? at h
  unfold World.setCell
  have e : w.heap.modify a.block (fun | .cells c elem frozen => .cells (if a.spot.isSome then c else c.setIfInBounds a.off v) elem frozen | o => o) = w.heap := by
    apply Array.ext_getElem?
    intro i
    rw [Array.getElem?_modify]
    split
    · rename_i hi
      subst hi
      cases hb : w.heap[a.block]? with
      | none => rfl
      | some o =>
        rw [hb] at h
        cases o with
        | cells c t f =>
          simp only at h
          split at h
          · cases h
          · rename_i hs
            simp only [Option.map_some, hs, if_false]
            congr 2
            rw [if_neg (by decide)]
            apply Array.ext_getElem?
            intro j
            rw [Array.getElem?_setIfInBounds]
            split
            · rename_i hj
              subst hj
              have hlt := (Array.getElem?_eq_some_iff.1 h).1
              rw [if_pos hlt, h]
            · rfl
        | _ => rfl
    · rfl
  exact congrArg (fun hh => ({ w with heap := hh } : World)) e
theorem clone_b (B : Nat) (l : List UInt8) (w : World) (hB : B ≤ w.heap.size) (hl : l.length ≤ 1100000) : Calls Tryd.prog 40 #[.string ⟨l.toArray⟩] w fun e w' => e = .returned (.string ⟨l.toArray⟩) ∧ Below B w w' :=
  (clone_any l w hl).mono fun e w' ⟨h1, h2⟩ => ⟨h1, Below.mono h2 hB⟩

def Back (v : Value) (w : World) (e : Ending) (w' : World) : Prop := e = .returned v ∧ Grow w w'
set_option maxHeartbeats 6400000 in
theorem fresh_any (h : Hd) (A : Option Addr) (n c : Nat) (w : World) (k : HdIn w A n c h) (hr : RowFree w A) :
    Calls Tryd.prog 44 #[hdV h A n c] w (Back (hdV h A n c) w) := by
  obtain ⟨l1, l2, l3, l4, l5, l6, l7⟩ := k.parts
  have htop := k.top
  have HLN := Lib.hid k.len
  have HK := Lib.hid k
  have HR := Lib.hid hr
  obtain ⟨nb, hnb⟩ : ∃ nb, w.heap.size = nb := ⟨_, rfl⟩
  have hg1 := grow_new w (.cells #[.string ⟨h.res.toArray⟩, .string ⟨h.left.toArray⟩, .string ⟨h.name.toArray⟩, .string ⟨h.right.toArray⟩, .string ⟨h.f.toArray⟩, .string ⟨h.g.toArray⟩, .slice A n c] 33)
  have hg2 := grow_new (w.alloc (.cells #[.string ⟨h.res.toArray⟩, .string ⟨h.left.toArray⟩, .string ⟨h.name.toArray⟩, .string ⟨h.right.toArray⟩, .string ⟨h.f.toArray⟩, .string ⟨h.g.toArray⟩, .slice A n c] 33)) (.cells #[.string ⟨#[]⟩, .string ⟨#[]⟩, .string ⟨#[]⟩, .string ⟨#[]⟩, .string ⟨#[]⟩, .string ⟨#[]⟩, .slice none 0 0] 33)
  have hbx := boxH_new w h A n c
  have hbr := boxH_new (w.alloc (.cells #[.string ⟨h.res.toArray⟩, .string ⟨h.left.toArray⟩, .string ⟨h.name.toArray⟩, .string ⟨h.right.toArray⟩, .string ⟨h.f.toArray⟩, .string ⟨h.g.toArray⟩, .slice A n c] 33)) hd0 none 0 0
  have hsz : (w.alloc (.cells #[.string ⟨h.res.toArray⟩, .string ⟨h.left.toArray⟩, .string ⟨h.name.toArray⟩, .string ⟨h.right.toArray⟩, .string ⟨h.f.toArray⟩, .string ⟨h.g.toArray⟩, .slice A n c] 33)).heap.size = nb + 1 := by rw [← hnb]; simp
  rw [hnb] at hbx
  rw [hsz] at hbr
  have HB2 := Lib.hid (hbx.grow hg2)
  have HZ2 : Hid (BoxH ((w.alloc (.cells #[.string ⟨h.res.toArray⟩, .string ⟨h.left.toArray⟩, .string ⟨h.name.toArray⟩, .string ⟨h.right.toArray⟩, .string ⟨h.f.toArray⟩, .string ⟨h.g.toArray⟩, .slice A n c] 33)).alloc (.cells #[.string ⟨#[]⟩, .string ⟨#[]⟩, .string ⟨#[]⟩, .string ⟨#[]⟩, .string ⟨#[]⟩, .string ⟨#[]⟩, .slice none 0 0] 33)) (nb + 1) hd0 none 0 0) := Lib.hid hbr
  have HG2 := Lib.hid (hg1.trans hg2)
  have HNB := Lib.hid hnb
  clear k hr hnb hg1 hg2 hbx hbr hsz
  unfold hdV strv
  go_enter Tryd.func44, Tryd.ntmps44
  go_upto_region 1 with fail
  rw [HNB.out]
  generalize (w.alloc (.cells #[.string ⟨h.res.toArray⟩, .string ⟨h.left.toArray⟩, .string ⟨h.name.toArray⟩, .string ⟨h.right.toArray⟩, .string ⟨h.f.toArray⟩, .string ⟨h.g.toArray⟩, .slice A n c] 33)).alloc (.cells #[.string ⟨#[]⟩, .string ⟨#[]⟩, .string ⟨#[]⟩, .string ⟨#[]⟩, .string ⟨#[]⟩, .string ⟨#[]⟩, .slice none 0 0] 33) = w2 at HB2 HZ2 HG2 ⊢
  obtain ⟨rb, HRB⟩ : ∃ rb, Hid (nb + 1 = rb) := ⟨_, Lib.hid rfl⟩
  rw [HRB.out] at HZ2 ⊢
  have b6 := HB2.out.at6
  go_wp2
  go_loopg [8] n (fun g s8 wr => ∃ k : Nat, k ≤ n ∧ g = n - k ∧ s8 = .int .i64 k ∧ Hid (Grow w2 wr))
  case atStart => exact ⟨0, Nat.zero_le _, rfl, rfl, Lib.hid (Grow.refl _)⟩
  case round =>
    obtain ⟨k, hk, rfl, rfl, HG⟩ := hrel
    by_cases hlt : k < n
    · have hkl : k < h.locs.length := by rw [HLN.out]; exact hlt
      have HGW := Lib.hid (HG2.out.trans HG.out)
      obtain ⟨b, off, rfl, hb, hcl⟩ := HK.out.strs.grow HGW.out (by omega)
      have hc := hcl k hkl
      have hxl := getD_len l7 k
      have HCE := Lib.hid hc
      have HFZ := Lib.hid ((HR.out.grow HGW.out).at rfl (off + k))
      clear hcl hkl
      generalize h.locs.getD k [] = x at hc hxl HCE
      go_upto_region 4 with fail
      refine wp_region_R Grow (n := 7) rfl (by kernel_rfl) ?_
      intro W0 hW0e hW0
      have HW0 := Lib.hid hW0
      have q6 : ∀ wg, Grow W0 wg → wg.cell? ⟨nb, 6, none⟩ = some (.slice (some ⟨b, off, none⟩) n c) := fun wg hh => (HB2.out.grow ((HG.out.trans HW0.out).trans hh)).at6
      clear hW0e
      refine wpR_take growOrd (i := 0) (v := ?vf1) rfl (by kernel_rfl) (by kernel_rfl) (by kernel_rfl) (fun _ _ _ h => h) (by rfl) ?hf1 ?rf1
      case hf1 => (intro wg hSw; go_simp <;> with_reducible rfl)
      simp only [Act.put, List.setIfInBounds_toArray, List.set_cons_zero, List.set_cons_succ]
      refine wpR_take growOrd (i := 1) (v := ?vf2) rfl (by kernel_rfl) (by kernel_rfl) (by kernel_rfl) (fun _ _ _ h => h) (by rfl) ?hf2 ?rf2
      case hf2 => (intro wg hSw; go_simp <;> with_reducible rfl)
      simp only [Act.put, List.setIfInBounds_toArray, List.set_cons_zero, List.set_cons_succ]
      refine wpR_take growOrd (i := 2) (v := ?vf3) rfl (by kernel_rfl) (by kernel_rfl) (by kernel_rfl) (fun _ _ _ h => h) (by rfl) ?hf3 ?rf3
      case hf3 => (intro wg hSw; go_simp <;> with_reducible rfl)
      simp only [Act.put, List.setIfInBounds_toArray, List.set_cons_zero, List.set_cons_succ]
      refine wpR_take growOrd (i := 3) (v := ?vf4) rfl (by kernel_rfl) (by kernel_rfl) (by kernel_rfl) (fun _ _ _ h => h) (by rfl) ?hf4 ?rf4
      case hf4 => (intro wg hSw; go_simp <;> with_reducible rfl)
      simp only [Act.put, List.setIfInBounds_toArray, List.set_cons_zero, List.set_cons_succ]
      refine wpR_one (i := 4) (by kernel_rfl) ?_
      refine wpR_op (i := 4) rfl (by rfl) (fun K hK => ?_)
      go_simp
      refine (clone_any x W0 hxl).mono ?_
      rintro e wM4 ⟨rfl, hM4⟩
      refine hK.out _ _ hM4 ?_
      clear hK K
      try simp only [Act.put, List.setIfInBounds_toArray, List.set_cons_zero, List.set_cons_succ]
      refine wpR_take growOrd (i := 5) (v := ?vf5) rfl (by kernel_rfl) (by kernel_rfl) (by kernel_rfl) (fun _ _ _ h => h) (by rfl) ?hf5 ?rf5
      case hf5 => (intro wg hSw; go_simp <;> with_reducible rfl)
      simp only [Act.put, List.setIfInBounds_toArray, List.set_cons_zero, List.set_cons_succ]
      refine wpR_one (i := 6) (by kernel_rfl) ?_
      refine wpR_op (i := 6) rfl (by rfl) (fun K hK => ?_)
      have hcM : (wM4).cell? ⟨b, off + k, none⟩ = some (.string ⟨x.toArray⟩) := ((HW0.out.trans (Grow.trans (Grow.refl W0) hM4)).cell (block_lt_of_cell HCE.out)).trans HCE.out
      have hfM : (wM4).frozen? ⟨b, off + k, none⟩ = false := (HR.out.grow ((HGW.out.trans HW0.out).trans (Grow.trans (Grow.refl W0) hM4))).at rfl (off + k)
      have hidM := setCell_id hcM
      go_simp
      obtain ⟨wM6, hw6⟩ : ∃ W, wM4 = W := ⟨_, rfl⟩
      have hM6 : Grow wM4 wM6 := by rw [hw6]; exact Grow.refl _
      clear hcM hfM hidM
      rw [hw6]
      refine hK.out _ _ hM6 ?_
      clear hK K
      try simp only [Act.put, List.setIfInBounds_toArray, List.set_cons_zero, List.set_cons_succ]
      refine wpR_done (by kernel_rfl) ?_
      have HGT := Lib.hid ((HG.out.trans HW0.out).trans (Grow.trans (Grow.trans (Grow.refl W0) hM4) hM6))
      clear q6
      go_wp2
      go_roundg (n - (k + 1))
      case rel => exact ⟨k + 1, by omega, rfl, by go_num, HGT⟩
      case measure => omega
    · obtain rfl : n = k := by omega
      have HBW := Lib.hid (HB2.out.grow HG.out)
      have HZW := Lib.hid (HZ2.out.grow HG.out)
      have HSZ : Hid (rb ≤ wr.heap.size) := Lib.hid (Nat.le_of_lt HZW.out.lt)
      have HLT : Hid (nb < rb) := Lib.hid (by have := HRB.out; omega)
      have HWB : Hid (w.heap.size ≤ rb) := Lib.hid (by have := HRB.out; have := HNB.out; omega)
      clear b6
      go_upto_region 6 with fail
      refine wp_region_R ((Below rb)) (n := 22) rfl (by kernel_rfl) ?_
      intro W0 hW0e hW0
      have HW0 : Hid (Grow wr W0) := Lib.hid hW0
      have HB0 := Lib.hid (HBW.out.grow HW0.out)
      have HSZ0 := Lib.hid (Nat.le_trans HSZ.out HW0.out.size)
      have q0 : ∀ wg, Below rb W0 wg → wg.cell? ⟨nb, 0, none⟩ = some (.string ⟨h.res.toArray⟩) := fun wg hh => (HB0.out.below hh HLT.out).at0
      have q1 : ∀ wg, Below rb W0 wg → wg.cell? ⟨nb, 1, none⟩ = some (.string ⟨h.left.toArray⟩) := fun wg hh => (HB0.out.below hh HLT.out).at1
      have q2 : ∀ wg, Below rb W0 wg → wg.cell? ⟨nb, 2, none⟩ = some (.string ⟨h.name.toArray⟩) := fun wg hh => (HB0.out.below hh HLT.out).at2
      have q3 : ∀ wg, Below rb W0 wg → wg.cell? ⟨nb, 3, none⟩ = some (.string ⟨h.right.toArray⟩) := fun wg hh => (HB0.out.below hh HLT.out).at3
      have q4 : ∀ wg, Below rb W0 wg → wg.cell? ⟨nb, 4, none⟩ = some (.string ⟨h.f.toArray⟩) := fun wg hh => (HB0.out.below hh HLT.out).at4
      have q5 : ∀ wg, Below rb W0 wg → wg.cell? ⟨nb, 5, none⟩ = some (.string ⟨h.g.toArray⟩) := fun wg hh => (HB0.out.below hh HLT.out).at5
      have q6 : ∀ wg, Below rb W0 wg → wg.cell? ⟨nb, 6, none⟩ = some (.slice A n c) := fun wg hh => (HB0.out.below hh HLT.out).at6
      clear hW0e
      refine wpR_take (belowOrd rb) (i := 0) (v := ?vf6) rfl (by kernel_rfl) (by kernel_rfl) (by kernel_rfl) (fun _ _ _ h => h) (by rfl) ?hf6 ?rf6
      case hf6 => (intro wg hSw; go_simp <;> with_reducible rfl)
      simp only [Act.put, List.setIfInBounds_toArray, List.set_cons_zero, List.set_cons_succ]
      refine wpR_take (belowOrd rb) (i := 1) (v := ?vf7) rfl (by kernel_rfl) (by kernel_rfl) (by kernel_rfl) (fun _ _ _ h => h) (by rfl) ?hf7 ?rf7
      case hf7 => (intro wg hSw; go_simp <;> with_reducible rfl)
      simp only [Act.put, List.setIfInBounds_toArray, List.set_cons_zero, List.set_cons_succ]
      refine wpR_take (belowOrd rb) (i := 3) (v := ?vf8) rfl (by kernel_rfl) (by kernel_rfl) (by kernel_rfl) (fun _ _ _ h => h) (by rfl) ?hf8 ?rf8
      case hf8 => (intro wg hSw; go_simp <;> with_reducible rfl)
      simp only [Act.put, List.setIfInBounds_toArray, List.set_cons_zero, List.set_cons_succ]
      refine wpR_take (belowOrd rb) (i := 4) (v := ?vf9) rfl (by kernel_rfl) (by kernel_rfl) (by kernel_rfl) (fun _ _ _ h => h) (by rfl) ?hf9 ?rf9
      case hf9 => (intro wg hSw; go_simp <;> with_reducible rfl)
      simp only [Act.put, List.setIfInBounds_toArray, List.set_cons_zero, List.set_cons_succ]
      refine wpR_take (belowOrd rb) (i := 6) (v := ?vf10) rfl (by kernel_rfl) (by kernel_rfl) (by kernel_rfl) (fun _ _ _ h => h) (by rfl) ?hf10 ?rf10
      case hf10 => (intro wg hSw; go_simp <;> with_reducible rfl)
      simp only [Act.put, List.setIfInBounds_toArray, List.set_cons_zero, List.set_cons_succ]
      refine wpR_take (belowOrd rb) (i := 7) (v := ?vf11) rfl (by kernel_rfl) (by kernel_rfl) (by kernel_rfl) (fun _ _ _ h => h) (by rfl) ?hf11 ?rf11
      case hf11 => (intro wg hSw; go_simp <;> with_reducible rfl)
      simp only [Act.put, List.setIfInBounds_toArray, List.set_cons_zero, List.set_cons_succ]
      refine wpR_take (belowOrd rb) (i := 9) (v := ?vf12) rfl (by kernel_rfl) (by kernel_rfl) (by kernel_rfl) (fun _ _ _ h => h) (by rfl) ?hf12 ?rf12
      case hf12 => (intro wg hSw; go_simp <;> with_reducible rfl)
      simp only [Act.put, List.setIfInBounds_toArray, List.set_cons_zero, List.set_cons_succ]
      refine wpR_take (belowOrd rb) (i := 10) (v := ?vf13) rfl (by kernel_rfl) (by kernel_rfl) (by kernel_rfl) (fun _ _ _ h => h) (by rfl) ?hf13 ?rf13
      case hf13 => (intro wg hSw; go_simp <;> with_reducible rfl)
      simp only [Act.put, List.setIfInBounds_toArray, List.set_cons_zero, List.set_cons_succ]
      refine wpR_take (belowOrd rb) (i := 12) (v := ?vf14) rfl (by kernel_rfl) (by kernel_rfl) (by kernel_rfl) (fun _ _ _ h => h) (by rfl) ?hf14 ?rf14
      case hf14 => (intro wg hSw; go_simp <;> with_reducible rfl)
      simp only [Act.put, List.setIfInBounds_toArray, List.set_cons_zero, List.set_cons_succ]
      refine wpR_take (belowOrd rb) (i := 13) (v := ?vf15) rfl (by kernel_rfl) (by kernel_rfl) (by kernel_rfl) (fun _ _ _ h => h) (by rfl) ?hf15 ?rf15
      case hf15 => (intro wg hSw; go_simp <;> with_reducible rfl)
      simp only [Act.put, List.setIfInBounds_toArray, List.set_cons_zero, List.set_cons_succ]
      refine wpR_take (belowOrd rb) (i := 15) (v := ?vf16) rfl (by kernel_rfl) (by kernel_rfl) (by kernel_rfl) (fun _ _ _ h => h) (by rfl) ?hf16 ?rf16
      case hf16 => (intro wg hSw; go_simp <;> with_reducible rfl)
      simp only [Act.put, List.setIfInBounds_toArray, List.set_cons_zero, List.set_cons_succ]
      refine wpR_take (belowOrd rb) (i := 16) (v := ?vf17) rfl (by kernel_rfl) (by kernel_rfl) (by kernel_rfl) (fun _ _ _ h => h) (by rfl) ?hf17 ?rf17
      case hf17 => (intro wg hSw; go_simp <;> with_reducible rfl)
      simp only [Act.put, List.setIfInBounds_toArray, List.set_cons_zero, List.set_cons_succ]
      refine wpR_take (belowOrd rb) (i := 18) (v := ?vf18) rfl (by kernel_rfl) (by kernel_rfl) (by kernel_rfl) (fun _ _ _ h => h) (by rfl) ?hf18 ?rf18
      case hf18 => (intro wg hSw; go_simp <;> with_reducible rfl)
      simp only [Act.put, List.setIfInBounds_toArray, List.set_cons_zero, List.set_cons_succ]
      refine wpR_take (belowOrd rb) (i := 19) (v := ?vf19) rfl (by kernel_rfl) (by kernel_rfl) (by kernel_rfl) (fun _ _ _ h => h) (by rfl) ?hf19 ?rf19
      case hf19 => (intro wg hSw; go_simp <;> with_reducible rfl)
      simp only [Act.put, List.setIfInBounds_toArray, List.set_cons_zero, List.set_cons_succ]
      refine wpR_one (i := 2) (by kernel_rfl) ?_
      refine wpR_op (i := 2) rfl (by rfl) (fun K hK => ?_)
      go_simp
      have hsz2 := Nat.le_trans HSZ0.out ((((belowOrd rb)).refl W0)).size
      refine (clone_any h.res W0 l1).mono ?_
      rintro e wM2 ⟨rfl, hg2⟩
      have hM2 : Below rb W0 wM2 := Below.mono hg2 hsz2
      have hN2 := hM2
      refine hK.out _ _ hM2 ?_
      clear hK K
      try simp only [Act.put, List.setIfInBounds_toArray, List.set_cons_zero, List.set_cons_succ]
      refine wpR_one (i := 5) (by kernel_rfl) ?_
      refine wpR_op (i := 5) rfl (by rfl) (fun K hK => ?_)
      go_simp
      have hsz5 := Nat.le_trans HSZ0.out ((((belowOrd rb)).trans (((belowOrd rb)).refl W0) hM2)).size
      refine (clone_any h.left wM2 l2).mono ?_
      rintro e wM5 ⟨rfl, hg5⟩
      have hM5 : Below rb wM2 wM5 := Below.mono hg5 hsz5
      have hN5 := hM5
      refine hK.out _ _ hM5 ?_
      clear hK K
      try simp only [Act.put, List.setIfInBounds_toArray, List.set_cons_zero, List.set_cons_succ]
      refine wpR_one (i := 8) (by kernel_rfl) ?_
      refine wpR_op (i := 8) rfl (by rfl) (fun K hK => ?_)
      go_simp
      have hsz8 := Nat.le_trans HSZ0.out ((((belowOrd rb)).trans (((belowOrd rb)).trans (((belowOrd rb)).refl W0) hM2) hM5)).size
      refine (clone_any h.name wM5 l3).mono ?_
      rintro e wM8 ⟨rfl, hg8⟩
      have hM8 : Below rb wM5 wM8 := Below.mono hg8 hsz8
      have hN8 := hM8
      refine hK.out _ _ hM8 ?_
      clear hK K
      try simp only [Act.put, List.setIfInBounds_toArray, List.set_cons_zero, List.set_cons_succ]
      refine wpR_one (i := 11) (by kernel_rfl) ?_
      refine wpR_op (i := 11) rfl (by rfl) (fun K hK => ?_)
      go_simp
      have hsz11 := Nat.le_trans HSZ0.out ((((belowOrd rb)).trans (((belowOrd rb)).trans (((belowOrd rb)).trans (((belowOrd rb)).refl W0) hM2) hM5) hM8)).size
      refine (clone_any h.right wM8 l4).mono ?_
      rintro e wM11 ⟨rfl, hg11⟩
      have hM11 : Below rb wM8 wM11 := Below.mono hg11 hsz11
      have hN11 := hM11
      refine hK.out _ _ hM11 ?_
      clear hK K
      try simp only [Act.put, List.setIfInBounds_toArray, List.set_cons_zero, List.set_cons_succ]
      refine wpR_one (i := 14) (by kernel_rfl) ?_
      refine wpR_op (i := 14) rfl (by rfl) (fun K hK => ?_)
      go_simp
      have hsz14 := Nat.le_trans HSZ0.out ((((belowOrd rb)).trans (((belowOrd rb)).trans (((belowOrd rb)).trans (((belowOrd rb)).trans (((belowOrd rb)).refl W0) hM2) hM5) hM8) hM11)).size
      refine (clone_any h.f wM11 l5).mono ?_
      rintro e wM14 ⟨rfl, hg14⟩
      have hM14 : Below rb wM11 wM14 := Below.mono hg14 hsz14
      have hN14 := hM14
      refine hK.out _ _ hM14 ?_
      clear hK K
      try simp only [Act.put, List.setIfInBounds_toArray, List.set_cons_zero, List.set_cons_succ]
      refine wpR_one (i := 17) (by kernel_rfl) ?_
      refine wpR_op (i := 17) rfl (by rfl) (fun K hK => ?_)
      go_simp
      have hsz17 := Nat.le_trans HSZ0.out ((((belowOrd rb)).trans (((belowOrd rb)).trans (((belowOrd rb)).trans (((belowOrd rb)).trans (((belowOrd rb)).trans (((belowOrd rb)).refl W0) hM2) hM5) hM8) hM11) hM14)).size
      refine (clone_any h.g wM14 l6).mono ?_
      rintro e wM17 ⟨rfl, hg17⟩
      have hM17 : Below rb wM14 wM17 := Below.mono hg17 hsz17
      have hN17 := hM17
      refine hK.out _ _ hM17 ?_
      clear hK K
      try simp only [Act.put, List.setIfInBounds_toArray, List.set_cons_zero, List.set_cons_succ]
      refine wpR_take (belowOrd rb) (i := 20) (v := ?vf20) rfl (by kernel_rfl) (by kernel_rfl) (by kernel_rfl) (fun _ _ _ h => h) (by rfl) ?hf20 ?rf20
      case hf20 => (intro wg hSw; go_simp <;> with_reducible rfl)
      simp only [Act.put, List.setIfInBounds_toArray, List.set_cons_zero, List.set_cons_succ]
      refine wpR_one (i := 21) (by kernel_rfl) ?_
      refine wpR_op (i := 21) rfl (by rfl) (fun K hK => ?_)
      have HGM : Hid (Grow W0 wM17) := Lib.hid ((((((hg2.trans hg5).trans hg8).trans hg11).trans hg14).trans hg17))
      have HZM := Lib.hid ((HZW.out.grow HW0.out).grow HGM.out)
      have r0 := HZM.out.at0
      have r1 := HZM.out.at1
      have r2 := HZM.out.at2
      have r3 := HZM.out.at3
      have r4 := HZM.out.at4
      have r5 := HZM.out.at5
      have r6 := HZM.out.at6
      have f0 := HZM.out.froz 0
      have f1 := HZM.out.froz 1
      have f2 := HZM.out.froz 2
      have f3 := HZM.out.froz 3
      have f4 := HZM.out.froz 4
      have f5 := HZM.out.froz 5
      have f6 := HZM.out.froz 6
      go_simp
      generalize hwM21 : World.setCell _ _ _ = wM21
      have hM21 : Below rb wM17 wM21 := by rw [← hwM21]; exact below_all _ _ _ (Nat.le_refl _) _ _ _ _ _ _ _
      have hN21 := hM21
      have HBX : Hid (BoxH wM21 rb h A n c) := Lib.hid (by rw [← hwM21]; exact HZM.out.all h A n c)
      have HGE : Hid (Grow w wM21) := Lib.hid (Below.trans (((HG2.out.trans HG.out).trans HW0.out).trans HGM.out) (Below.mono hM21 HWB.out))
      clear hwM21 r0 r1 r2 r3 r4 r5 r6 f0 f1 f2 f3 f4 f5 f6
      refine hK.out _ _ hM21 ?_
      clear hK K
      try simp only [Act.put, List.setIfInBounds_toArray, List.set_cons_zero, List.set_cons_succ]
      refine wpR_done (by kernel_rfl) ?_
      clear q0 q1 q2 q3 q4 q5 q6
      have c0 := HBX.out.at0
      have c1 := HBX.out.at1
      have c2 := HBX.out.at2
      have c3 := HBX.out.at3
      have c4 := HBX.out.at4
      have c5 := HBX.out.at5
      have c6 := HBX.out.at6
      go_wp2
      exact bodyPost_ret (v := hdV h A n c) (by simp [hdV, strv, results, Tryd.results44, go_sem, c0, c1, c2, c3, c4, c5, c6]) rfl ⟨rfl, HGE.out⟩
end Go.Proofs.YtcnijmmpkahoaaaDoor
