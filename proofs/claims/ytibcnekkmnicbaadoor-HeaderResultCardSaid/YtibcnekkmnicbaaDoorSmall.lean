/-
  The law's small cases come out right. Nothing is claimed here by itself.
-/
import Derived.Test.YtibcnekkmnicbaaDoorRSame
namespace Go.Proofs.YtibcnekkmnicbaaDoor
open Go.RowKit Go.Lib
set_option linter.unusedSimpArgs false
set_option linter.unusedVariables false
set_option maxRecDepth 100000

/-- a head in a block, that may be handed on -/
def HB (W : World) (b : Nat) (h : Hd) (A : Option Addr) (n c : Nat) : Prop := BoxH W b h A n c ∧ HdIn W A n c h
theorem HB.grow {W W' : World} {b : Nat} {h : Hd} {A : Option Addr} {n c : Nat} (k : HB W b h A n c) (hg : Grow W W') : HB W' b h A n c := ⟨k.1.grow hg, k.2.grow hg⟩
theorem hb_new {W0 W : World} {h : Hd} {A : Option Addr} {n c : Nat} (k : HdIn W A n c h) : HB (W.alloc (.cells #[.string ⟨h.res.toArray⟩, .string ⟨h.left.toArray⟩, .string ⟨h.name.toArray⟩, .string ⟨h.right.toArray⟩, .string ⟨h.f.toArray⟩, .string ⟨h.g.toArray⟩, .slice A n c] 24)) W.heap.size h A n c :=
  ⟨boxH_new W h A n c, k.grow (grow_new _ _)⟩
theorem pparse_says {s : List UInt8} {o : Option Hd} {h : Hd} {b : Bool} (e : parseP s = o) (e1 : o.getD hd0 = h) (e2 : o.isSome = b) (hs : s.length ≤ 800000) (W : World) (hm : MaxAt W) : Calls Tryd.prog 10 #[.string ⟨s.toArray⟩] W (ParsP h b W) := by
  have := pparse_any s W hs hm
  rw [e, e1, e2] at this
  exact this
theorem same_says {x y : Hd} (e : x = y) {A1 : Option Addr} {n1 c1 : Nat} {A2 : Option Addr} {n2 c2 : Nat} {W : World} (k1 : HdIn W A1 n1 c1 x) (k2 : HdIn W A2 n2 c2 y) :
    Calls Tryd.prog 16 #[hdV x A1 n1 c1, hdV y A2 n2 c2] W (Says true W) := by
  have := rsame_any x y A1 n1 c1 A2 n2 c2 W k1 k2
  rw [decide_eq_true e] at this
  exact this
theorem text_says {h : Hd} {t : List UInt8} (e : headD h = t) {A : Option Addr} {n c : Nat} {W : World} (k : HdIn W A n c h) : Calls Tryd.prog 14 #[hdV h A n c] W (Gave t W) := by
  have := ptext_any h A n c W k
  rw [e] at this
  exact this
theorem right_says2 {h : Hd} {b : Bool} (e : rightH h = b) {A : Option Addr} {n c : Nat} {W : World} (k : HdIn W A n c h) : Calls Tryd.prog 12 #[hdV h A n c] W (Says b W) := by
  have := pright_any h A n c W k
  rw [e] at this
  exact this
/-- a head that is written out, with the row of its locals -/
theorem lit_in (W : World) (h : Hd) (hl : h.locs.length ≤ 900000) (he : ∀ s ∈ allH h, s.length ≤ 1000000) : HdIn (W.alloc (.cells (h.locs.map strv).toArray 9)) (some ⟨W.heap.size, 0, none⟩) h.locs.length h.locs.length h :=
  ⟨rfl, Nat.le_refl _, hl, (fun e => by cases e), strs_lit W h.locs, he⟩
theorem nil_in (W : World) (h : Hd) (hl : h.locs = []) (he : ∀ s ∈ allH h, s.length ≤ 1000000) : HdIn W none 0 0 h := ⟨by rw [hl]; rfl, Nat.le_refl _, Nat.zero_le _, fun _ => rfl, by rw [hl]; exact strs_nil, he⟩

theorem case1 : parseP [82, 226, 134, 144, 65, 32, 40, 70, 32, 69, 65, 67, 72, 41, 32, 66, 59, 73] = some (⟨[82], [65], [69, 65, 67, 72], [66], [70], [], [[73]]⟩ : Hd) := by decide +kernel
theorem case2 : parseP [71, 79] = some (⟨[], [], [71, 79], [], [], [], []⟩ : Hd) := by decide +kernel
theorem case3 : parseP [88, 32, 70, 32, 89] = some (⟨[], [88], [70], [89], [], [], []⟩ : Hd) := by decide +kernel
theorem case4 : parseP [40, 70, 32, 79, 80, 32, 71, 41, 32, 89] = some (⟨[], [], [79, 80], [89], [70], [71], []⟩ : Hd) := by decide +kernel
theorem case5 : parseP [70, 32, 89, 59, 65, 59, 66] = some (⟨[], [], [70], [89], [], [], [[65], [66]]⟩ : Hd) := by decide +kernel
theorem case6 : parseP [88, 32, 70, 32, 88] = none := by decide +kernel
theorem case7 : parseP [88, 32, 40, 70, 32, 79, 80, 41] = none := by decide +kernel
theorem case8 : parseP [] = none := by decide +kernel
theorem case9 : parseP [70, 32, 32, 89] = none := by decide +kernel
theorem case10 : parseP [70, 59] = none := by decide +kernel
theorem case11 : headD (⟨[82], [65], [69, 65, 67, 72], [66], [70], [], [[73]]⟩ : Hd) = [82, 226, 134, 144, 65, 32, 40, 70, 32, 69, 65, 67, 72, 41, 32, 66, 59, 73] := by decide +kernel
theorem case12 : headD (⟨[], [88], [70], [], [], [], []⟩ : Hd) = [] := by decide +kernel
theorem case13 : rightH hd0 = false := by decide +kernel

set_option maxHeartbeats 12800000 in
theorem small_any (w : World) (hm : MaxAt w) : Calls Tryd.prog 8 #[] w (Fine w) := by
  have HM := Lib.hid hm
  obtain ⟨h1, E1⟩ : ∃ h, Hid ((⟨[82], [65], [69, 65, 67, 72], [66], [70], [], [[73]]⟩ : Hd) = h) := ⟨_, Lib.hid rfl⟩
  have HP1 := Lib.hid (fun W hW => pparse_says case1 (show (some (⟨[82], [65], [69, 65, 67, 72], [66], [70], [], [[73]]⟩ : Hd)).getD hd0 = h1 from E1.out) (show _ = true from rfl) (by decide) W hW)
  obtain ⟨h2, E2⟩ : ∃ h, Hid ((⟨[], [], [71, 79], [], [], [], []⟩ : Hd) = h) := ⟨_, Lib.hid rfl⟩
  have HP2 := Lib.hid (fun W hW => pparse_says case2 (show (some (⟨[], [], [71, 79], [], [], [], []⟩ : Hd)).getD hd0 = h2 from E2.out) (show _ = true from rfl) (by decide) W hW)
  obtain ⟨h3, E3⟩ : ∃ h, Hid ((⟨[], [88], [70], [89], [], [], []⟩ : Hd) = h) := ⟨_, Lib.hid rfl⟩
  have HP3 := Lib.hid (fun W hW => pparse_says case3 (show (some (⟨[], [88], [70], [89], [], [], []⟩ : Hd)).getD hd0 = h3 from E3.out) (show _ = true from rfl) (by decide) W hW)
  obtain ⟨h4, E4⟩ : ∃ h, Hid ((⟨[], [], [79, 80], [89], [70], [71], []⟩ : Hd) = h) := ⟨_, Lib.hid rfl⟩
  have HP4 := Lib.hid (fun W hW => pparse_says case4 (show (some (⟨[], [], [79, 80], [89], [70], [71], []⟩ : Hd)).getD hd0 = h4 from E4.out) (show _ = true from rfl) (by decide) W hW)
  obtain ⟨h5, E5⟩ : ∃ h, Hid ((⟨[], [], [70], [89], [], [], [[65], [66]]⟩ : Hd) = h) := ⟨_, Lib.hid rfl⟩
  have HP5 := Lib.hid (fun W hW => pparse_says case5 (show (some (⟨[], [], [70], [89], [], [], [[65], [66]]⟩ : Hd)).getD hd0 = h5 from E5.out) (show _ = true from rfl) (by decide) W hW)
  obtain ⟨h6, E6⟩ : ∃ h, Hid (hd0 = h) := ⟨_, Lib.hid rfl⟩
  have HP6 := Lib.hid (fun W hW => pparse_says case6 (show none.getD hd0 = h6 from E6.out) (show _ = false from rfl) (by decide) W hW)
  obtain ⟨h7, E7⟩ : ∃ h, Hid (hd0 = h) := ⟨_, Lib.hid rfl⟩
  have HP7 := Lib.hid (fun W hW => pparse_says case7 (show none.getD hd0 = h7 from E7.out) (show _ = false from rfl) (by decide) W hW)
  obtain ⟨h8, E8⟩ : ∃ h, Hid (hd0 = h) := ⟨_, Lib.hid rfl⟩
  have HP8 := Lib.hid (fun W hW => pparse_says case8 (show none.getD hd0 = h8 from E8.out) (show _ = false from rfl) (by decide) W hW)
  obtain ⟨h9, E9⟩ : ∃ h, Hid (hd0 = h) := ⟨_, Lib.hid rfl⟩
  have HP9 := Lib.hid (fun W hW => pparse_says case9 (show none.getD hd0 = h9 from E9.out) (show _ = false from rfl) (by decide) W hW)
  obtain ⟨h10, E10⟩ : ∃ h, Hid (hd0 = h) := ⟨_, Lib.hid rfl⟩
  have HP10 := Lib.hid (fun W hW => pparse_says case10 (show none.getD hd0 = h10 from E10.out) (show _ = false from rfl) (by decide) W hW)
  clear hm
  go_enter Tryd.func8, Tryd.ntmps8
  go_wp2_with fail
  refine (HP1.out w (HM.out.grow (Grow.refl w))).mono ?_
  rintro e u1 ⟨A1, n1, c1, rfl, hin, hg⟩
  have hga := grow_new u1 (.cells #[.string ⟨h1.res.toArray⟩, .string ⟨h1.left.toArray⟩, .string ⟨h1.name.toArray⟩, .string ⟨h1.right.toArray⟩, .string ⟨h1.f.toArray⟩, .string ⟨h1.g.toArray⟩, .slice A1 n1 c1] 24)
  have hb := hb_new (W0 := w) hin
  have HG1 := Lib.hid (((Grow.refl w)).trans (hg.trans hga))
  obtain ⟨b1, hbb⟩ : ∃ b, u1.heap.size = b := ⟨_, rfl⟩
  have HBB := Lib.hid hbb
  rw [hbb] at hb
  have HB1 := Lib.hid hb
  clear hbb hb
  unfold hdV strv
  clear hin hg hga HP1
  go_upto_region 2 with fail
  rw [HBB.out]
  clear HBB
  generalize u1.alloc (.cells #[.string ⟨h1.res.toArray⟩, .string ⟨h1.left.toArray⟩, .string ⟨h1.name.toArray⟩, .string ⟨h1.right.toArray⟩, .string ⟨h1.f.toArray⟩, .string ⟨h1.g.toArray⟩, .slice A1 n1 c1] 24) = v1 at HG1 HB1 ⊢
  go_wp2_with fail
  refine (HP2.out v1 (HM.out.grow HG1.out)).mono ?_
  rintro e u2 ⟨A2, n2, c2, rfl, hin, hg⟩
  have hga := grow_new u2 (.cells #[.string ⟨h2.res.toArray⟩, .string ⟨h2.left.toArray⟩, .string ⟨h2.name.toArray⟩, .string ⟨h2.right.toArray⟩, .string ⟨h2.f.toArray⟩, .string ⟨h2.g.toArray⟩, .slice A2 n2 c2] 24)
  have hb := hb_new (W0 := w) hin
  have HG2 := Lib.hid ((HG1.out).trans (hg.trans hga))
  have HB1 := Lib.hid (HB1.out.grow (hg.trans hga))
  obtain ⟨b2, hbb⟩ : ∃ b, u2.heap.size = b := ⟨_, rfl⟩
  have HBB := Lib.hid hbb
  rw [hbb] at hb
  have HB2 := Lib.hid hb
  clear hbb hb
  unfold hdV strv
  clear hin hg hga HP2
  go_upto_region 3 with fail
  rw [HBB.out]
  clear HBB
  generalize u2.alloc (.cells #[.string ⟨h2.res.toArray⟩, .string ⟨h2.left.toArray⟩, .string ⟨h2.name.toArray⟩, .string ⟨h2.right.toArray⟩, .string ⟨h2.f.toArray⟩, .string ⟨h2.g.toArray⟩, .slice A2 n2 c2] 24) = v2 at HG2 HB1 HB2 ⊢
  go_wp2_with fail
  refine (HP3.out v2 (HM.out.grow HG2.out)).mono ?_
  rintro e u3 ⟨A3, n3, c3, rfl, hin, hg⟩
  have hga := grow_new u3 (.cells #[.string ⟨h3.res.toArray⟩, .string ⟨h3.left.toArray⟩, .string ⟨h3.name.toArray⟩, .string ⟨h3.right.toArray⟩, .string ⟨h3.f.toArray⟩, .string ⟨h3.g.toArray⟩, .slice A3 n3 c3] 24)
  have hb := hb_new (W0 := w) hin
  have HG3 := Lib.hid ((HG2.out).trans (hg.trans hga))
  have HB1 := Lib.hid (HB1.out.grow (hg.trans hga))
  have HB2 := Lib.hid (HB2.out.grow (hg.trans hga))
  obtain ⟨b3, hbb⟩ : ∃ b, u3.heap.size = b := ⟨_, rfl⟩
  have HBB := Lib.hid hbb
  rw [hbb] at hb
  have HB3 := Lib.hid hb
  clear hbb hb
  unfold hdV strv
  clear hin hg hga HP3
  go_upto_region 4 with fail
  rw [HBB.out]
  clear HBB
  generalize u3.alloc (.cells #[.string ⟨h3.res.toArray⟩, .string ⟨h3.left.toArray⟩, .string ⟨h3.name.toArray⟩, .string ⟨h3.right.toArray⟩, .string ⟨h3.f.toArray⟩, .string ⟨h3.g.toArray⟩, .slice A3 n3 c3] 24) = v3 at HG3 HB1 HB2 HB3 ⊢
  go_wp2_with fail
  refine (HP4.out v3 (HM.out.grow HG3.out)).mono ?_
  rintro e u4 ⟨A4, n4, c4, rfl, hin, hg⟩
  have hga := grow_new u4 (.cells #[.string ⟨h4.res.toArray⟩, .string ⟨h4.left.toArray⟩, .string ⟨h4.name.toArray⟩, .string ⟨h4.right.toArray⟩, .string ⟨h4.f.toArray⟩, .string ⟨h4.g.toArray⟩, .slice A4 n4 c4] 24)
  have hb := hb_new (W0 := w) hin
  have HG4 := Lib.hid ((HG3.out).trans (hg.trans hga))
  have HB1 := Lib.hid (HB1.out.grow (hg.trans hga))
  have HB2 := Lib.hid (HB2.out.grow (hg.trans hga))
  have HB3 := Lib.hid (HB3.out.grow (hg.trans hga))
  obtain ⟨b4, hbb⟩ : ∃ b, u4.heap.size = b := ⟨_, rfl⟩
  have HBB := Lib.hid hbb
  rw [hbb] at hb
  have HB4 := Lib.hid hb
  clear hbb hb
  unfold hdV strv
  clear hin hg hga HP4
  go_upto_region 5 with fail
  rw [HBB.out]
  clear HBB
  generalize u4.alloc (.cells #[.string ⟨h4.res.toArray⟩, .string ⟨h4.left.toArray⟩, .string ⟨h4.name.toArray⟩, .string ⟨h4.right.toArray⟩, .string ⟨h4.f.toArray⟩, .string ⟨h4.g.toArray⟩, .slice A4 n4 c4] 24) = v4 at HG4 HB1 HB2 HB3 HB4 ⊢
  go_wp2_with fail
  refine (HP5.out v4 (HM.out.grow HG4.out)).mono ?_
  rintro e u5 ⟨A5, n5, c5, rfl, hin, hg⟩
  have hga := grow_new u5 (.cells #[.string ⟨h5.res.toArray⟩, .string ⟨h5.left.toArray⟩, .string ⟨h5.name.toArray⟩, .string ⟨h5.right.toArray⟩, .string ⟨h5.f.toArray⟩, .string ⟨h5.g.toArray⟩, .slice A5 n5 c5] 24)
  have hb := hb_new (W0 := w) hin
  have HG5 := Lib.hid ((HG4.out).trans (hg.trans hga))
  have HB1 := Lib.hid (HB1.out.grow (hg.trans hga))
  have HB2 := Lib.hid (HB2.out.grow (hg.trans hga))
  have HB3 := Lib.hid (HB3.out.grow (hg.trans hga))
  have HB4 := Lib.hid (HB4.out.grow (hg.trans hga))
  obtain ⟨b5, hbb⟩ : ∃ b, u5.heap.size = b := ⟨_, rfl⟩
  have HBB := Lib.hid hbb
  rw [hbb] at hb
  have HB5 := Lib.hid hb
  clear hbb hb
  unfold hdV strv
  clear hin hg hga HP5
  go_upto_region 6 with fail
  rw [HBB.out]
  clear HBB
  generalize u5.alloc (.cells #[.string ⟨h5.res.toArray⟩, .string ⟨h5.left.toArray⟩, .string ⟨h5.name.toArray⟩, .string ⟨h5.right.toArray⟩, .string ⟨h5.f.toArray⟩, .string ⟨h5.g.toArray⟩, .slice A5 n5 c5] 24) = v5 at HG5 HB1 HB2 HB3 HB4 HB5 ⊢
  go_wp2_with fail
  refine (HP6.out v5 (HM.out.grow HG5.out)).mono ?_
  rintro e u6 ⟨A6, n6, c6, rfl, hin, hg⟩
  have hga := grow_new u6 (.cells #[.string ⟨h6.res.toArray⟩, .string ⟨h6.left.toArray⟩, .string ⟨h6.name.toArray⟩, .string ⟨h6.right.toArray⟩, .string ⟨h6.f.toArray⟩, .string ⟨h6.g.toArray⟩, .slice A6 n6 c6] 24)
  have HG6 := Lib.hid ((HG5.out).trans (hg.trans hga))
  have HB1 := Lib.hid (HB1.out.grow (hg.trans hga))
  have HB2 := Lib.hid (HB2.out.grow (hg.trans hga))
  have HB3 := Lib.hid (HB3.out.grow (hg.trans hga))
  have HB4 := Lib.hid (HB4.out.grow (hg.trans hga))
  have HB5 := Lib.hid (HB5.out.grow (hg.trans hga))
  unfold hdV strv
  clear hin hg hga HP6
  go_upto_region 7 with fail
  generalize u6.alloc (.cells #[.string ⟨h6.res.toArray⟩, .string ⟨h6.left.toArray⟩, .string ⟨h6.name.toArray⟩, .string ⟨h6.right.toArray⟩, .string ⟨h6.f.toArray⟩, .string ⟨h6.g.toArray⟩, .slice A6 n6 c6] 24) = v6 at HG6 HB1 HB2 HB3 HB4 HB5 ⊢
  go_wp2_with fail
  refine (HP7.out v6 (HM.out.grow HG6.out)).mono ?_
  rintro e u7 ⟨A7, n7, c7, rfl, hin, hg⟩
  have hga := grow_new u7 (.cells #[.string ⟨h7.res.toArray⟩, .string ⟨h7.left.toArray⟩, .string ⟨h7.name.toArray⟩, .string ⟨h7.right.toArray⟩, .string ⟨h7.f.toArray⟩, .string ⟨h7.g.toArray⟩, .slice A7 n7 c7] 24)
  have HG7 := Lib.hid ((HG6.out).trans (hg.trans hga))
  have HB1 := Lib.hid (HB1.out.grow (hg.trans hga))
  have HB2 := Lib.hid (HB2.out.grow (hg.trans hga))
  have HB3 := Lib.hid (HB3.out.grow (hg.trans hga))
  have HB4 := Lib.hid (HB4.out.grow (hg.trans hga))
  have HB5 := Lib.hid (HB5.out.grow (hg.trans hga))
  unfold hdV strv
  clear hin hg hga HP7
  go_upto_region 8 with fail
  generalize u7.alloc (.cells #[.string ⟨h7.res.toArray⟩, .string ⟨h7.left.toArray⟩, .string ⟨h7.name.toArray⟩, .string ⟨h7.right.toArray⟩, .string ⟨h7.f.toArray⟩, .string ⟨h7.g.toArray⟩, .slice A7 n7 c7] 24) = v7 at HG7 HB1 HB2 HB3 HB4 HB5 ⊢
  go_wp2_with fail
  refine (HP8.out v7 (HM.out.grow HG7.out)).mono ?_
  rintro e u8 ⟨A8, n8, c8, rfl, hin, hg⟩
  have hga := grow_new u8 (.cells #[.string ⟨h8.res.toArray⟩, .string ⟨h8.left.toArray⟩, .string ⟨h8.name.toArray⟩, .string ⟨h8.right.toArray⟩, .string ⟨h8.f.toArray⟩, .string ⟨h8.g.toArray⟩, .slice A8 n8 c8] 24)
  have HG8 := Lib.hid ((HG7.out).trans (hg.trans hga))
  have HB1 := Lib.hid (HB1.out.grow (hg.trans hga))
  have HB2 := Lib.hid (HB2.out.grow (hg.trans hga))
  have HB3 := Lib.hid (HB3.out.grow (hg.trans hga))
  have HB4 := Lib.hid (HB4.out.grow (hg.trans hga))
  have HB5 := Lib.hid (HB5.out.grow (hg.trans hga))
  unfold hdV strv
  clear hin hg hga HP8
  go_upto_region 9 with fail
  generalize u8.alloc (.cells #[.string ⟨h8.res.toArray⟩, .string ⟨h8.left.toArray⟩, .string ⟨h8.name.toArray⟩, .string ⟨h8.right.toArray⟩, .string ⟨h8.f.toArray⟩, .string ⟨h8.g.toArray⟩, .slice A8 n8 c8] 24) = v8 at HG8 HB1 HB2 HB3 HB4 HB5 ⊢
  go_wp2_with fail
  refine (HP9.out v8 (HM.out.grow HG8.out)).mono ?_
  rintro e u9 ⟨A9, n9, c9, rfl, hin, hg⟩
  have hga := grow_new u9 (.cells #[.string ⟨h9.res.toArray⟩, .string ⟨h9.left.toArray⟩, .string ⟨h9.name.toArray⟩, .string ⟨h9.right.toArray⟩, .string ⟨h9.f.toArray⟩, .string ⟨h9.g.toArray⟩, .slice A9 n9 c9] 24)
  have HG9 := Lib.hid ((HG8.out).trans (hg.trans hga))
  have HB1 := Lib.hid (HB1.out.grow (hg.trans hga))
  have HB2 := Lib.hid (HB2.out.grow (hg.trans hga))
  have HB3 := Lib.hid (HB3.out.grow (hg.trans hga))
  have HB4 := Lib.hid (HB4.out.grow (hg.trans hga))
  have HB5 := Lib.hid (HB5.out.grow (hg.trans hga))
  unfold hdV strv
  clear hin hg hga HP9
  go_upto_region 10 with fail
  generalize u9.alloc (.cells #[.string ⟨h9.res.toArray⟩, .string ⟨h9.left.toArray⟩, .string ⟨h9.name.toArray⟩, .string ⟨h9.right.toArray⟩, .string ⟨h9.f.toArray⟩, .string ⟨h9.g.toArray⟩, .slice A9 n9 c9] 24) = v9 at HG9 HB1 HB2 HB3 HB4 HB5 ⊢
  go_wp2_with fail
  refine (HP10.out v9 (HM.out.grow HG9.out)).mono ?_
  rintro e u10 ⟨A10, n10, c10, rfl, hin, hg⟩
  have hga := grow_new u10 (.cells #[.string ⟨h10.res.toArray⟩, .string ⟨h10.left.toArray⟩, .string ⟨h10.name.toArray⟩, .string ⟨h10.right.toArray⟩, .string ⟨h10.f.toArray⟩, .string ⟨h10.g.toArray⟩, .slice A10 n10 c10] 24)
  have HG10 := Lib.hid ((HG9.out).trans (hg.trans hga))
  have HB1 := Lib.hid (HB1.out.grow (hg.trans hga))
  have HB2 := Lib.hid (HB2.out.grow (hg.trans hga))
  have HB3 := Lib.hid (HB3.out.grow (hg.trans hga))
  have HB4 := Lib.hid (HB4.out.grow (hg.trans hga))
  have HB5 := Lib.hid (HB5.out.grow (hg.trans hga))
  unfold hdV strv
  clear hin hg hga HP10
  go_upto_region 11 with fail
  generalize u10.alloc (.cells #[.string ⟨h10.res.toArray⟩, .string ⟨h10.left.toArray⟩, .string ⟨h10.name.toArray⟩, .string ⟨h10.right.toArray⟩, .string ⟨h10.f.toArray⟩, .string ⟨h10.g.toArray⟩, .slice A10 n10 c10] 24) = v10 at HG10 HB1 HB2 HB3 HB4 HB5 ⊢
  have b0 := HB1.out.1.at0
  have b1 := HB1.out.1.at1
  have b2 := HB1.out.1.at2
  have b3 := HB1.out.1.at3
  have b4 := HB1.out.1.at4
  have b5 := HB1.out.1.at5
  have b6 := HB1.out.1.at6
  have hgr := grow_new v10 (.cells #[.string ⟨#[73]⟩] 9)
  have hs : Calls Tryd.prog 16 #[hdV h1 A1 n1 c1, hdV (⟨[82], [65], [69, 65, 67, 72], [66], [70], [], [[73]]⟩ : Hd) (some ⟨v10.heap.size, 0, none⟩) 1 1] (v10.alloc (.cells #[.string ⟨#[73]⟩] 9)) (Says true (v10.alloc (.cells #[.string ⟨#[73]⟩] 9))) := same_says E1.out.symm (HB1.out.2.grow hgr) (lit_in v10 (⟨[82], [65], [69, 65, 67, 72], [66], [70], [], [[73]]⟩ : Hd) (by decide) (by decide))
  unfold hdV strv at hs
  dsimp only at hs
  have HS := Lib.hid hs
  clear hs
  go_wp2_with fail
  refine (HS.out).mono ?_
  rintro e x1 ⟨rfl, hg⟩
  have HGX1 := Lib.hid (HG10.out.trans (hgr.trans hg))
  have HB1 := Lib.hid (HB1.out.grow (hgr.trans hg))
  have HB2 := Lib.hid (HB2.out.grow (hgr.trans hg))
  have HB3 := Lib.hid (HB3.out.grow (hgr.trans hg))
  have HB4 := Lib.hid (HB4.out.grow (hgr.trans hg))
  have HB5 := Lib.hid (HB5.out.grow (hgr.trans hg))
  clear hg HS hgr
  clear b0 b1 b2 b3 b4 b5 b6
  have b0 := HB2.out.1.at0
  have b1 := HB2.out.1.at1
  have b2 := HB2.out.1.at2
  have b3 := HB2.out.1.at3
  have b4 := HB2.out.1.at4
  have b5 := HB2.out.1.at5
  have b6 := HB2.out.1.at6
  have hs : Calls Tryd.prog 16 #[hdV h2 A2 n2 c2, hdV (⟨[], [], [71, 79], [], [], [], []⟩ : Hd) none 0 0] x1 (Says true x1) := same_says E2.out.symm HB2.out.2 (nil_in x1 (⟨[], [], [71, 79], [], [], [], []⟩ : Hd) rfl (by decide))
  unfold hdV strv at hs
  dsimp only at hs
  have HS := Lib.hid hs
  clear hs
  go_wp2_with fail
  refine (HS.out).mono ?_
  rintro e x2 ⟨rfl, hg⟩
  have HGX2 := Lib.hid (HGX1.out.trans (hg))
  have HB1 := Lib.hid (HB1.out.grow (hg))
  have HB3 := Lib.hid (HB3.out.grow (hg))
  have HB4 := Lib.hid (HB4.out.grow (hg))
  have HB5 := Lib.hid (HB5.out.grow (hg))
  clear hg HS
  clear b0 b1 b2 b3 b4 b5 b6
  have b0 := HB3.out.1.at0
  have b1 := HB3.out.1.at1
  have b2 := HB3.out.1.at2
  have b3 := HB3.out.1.at3
  have b4 := HB3.out.1.at4
  have b5 := HB3.out.1.at5
  have b6 := HB3.out.1.at6
  have hs : Calls Tryd.prog 16 #[hdV h3 A3 n3 c3, hdV (⟨[], [88], [70], [89], [], [], []⟩ : Hd) none 0 0] x2 (Says true x2) := same_says E3.out.symm HB3.out.2 (nil_in x2 (⟨[], [88], [70], [89], [], [], []⟩ : Hd) rfl (by decide))
  unfold hdV strv at hs
  dsimp only at hs
  have HS := Lib.hid hs
  clear hs
  go_wp2_with fail
  refine (HS.out).mono ?_
  rintro e x3 ⟨rfl, hg⟩
  have HGX3 := Lib.hid (HGX2.out.trans (hg))
  have HB1 := Lib.hid (HB1.out.grow (hg))
  have HB4 := Lib.hid (HB4.out.grow (hg))
  have HB5 := Lib.hid (HB5.out.grow (hg))
  clear hg HS
  clear b0 b1 b2 b3 b4 b5 b6
  have b0 := HB4.out.1.at0
  have b1 := HB4.out.1.at1
  have b2 := HB4.out.1.at2
  have b3 := HB4.out.1.at3
  have b4 := HB4.out.1.at4
  have b5 := HB4.out.1.at5
  have b6 := HB4.out.1.at6
  have hs : Calls Tryd.prog 16 #[hdV h4 A4 n4 c4, hdV (⟨[], [], [79, 80], [89], [70], [71], []⟩ : Hd) none 0 0] x3 (Says true x3) := same_says E4.out.symm HB4.out.2 (nil_in x3 (⟨[], [], [79, 80], [89], [70], [71], []⟩ : Hd) rfl (by decide))
  unfold hdV strv at hs
  dsimp only at hs
  have HS := Lib.hid hs
  clear hs
  go_wp2_with fail
  refine (HS.out).mono ?_
  rintro e x4 ⟨rfl, hg⟩
  have HGX4 := Lib.hid (HGX3.out.trans (hg))
  have HB1 := Lib.hid (HB1.out.grow (hg))
  have HB5 := Lib.hid (HB5.out.grow (hg))
  clear hg HS
  clear b0 b1 b2 b3 b4 b5 b6
  have b0 := HB5.out.1.at0
  have b1 := HB5.out.1.at1
  have b2 := HB5.out.1.at2
  have b3 := HB5.out.1.at3
  have b4 := HB5.out.1.at4
  have b5 := HB5.out.1.at5
  have b6 := HB5.out.1.at6
  have hgr := grow_new x4 (.cells #[.string ⟨#[65]⟩, .string ⟨#[66]⟩] 9)
  have hs : Calls Tryd.prog 16 #[hdV h5 A5 n5 c5, hdV (⟨[], [], [70], [89], [], [], [[65], [66]]⟩ : Hd) (some ⟨x4.heap.size, 0, none⟩) 2 2] (x4.alloc (.cells #[.string ⟨#[65]⟩, .string ⟨#[66]⟩] 9)) (Says true (x4.alloc (.cells #[.string ⟨#[65]⟩, .string ⟨#[66]⟩] 9))) := same_says E5.out.symm (HB5.out.2.grow hgr) (lit_in x4 (⟨[], [], [70], [89], [], [], [[65], [66]]⟩ : Hd) (by decide) (by decide))
  unfold hdV strv at hs
  dsimp only at hs
  have HS := Lib.hid hs
  clear hs
  go_wp2_with fail
  refine (HS.out).mono ?_
  rintro e x5 ⟨rfl, hg⟩
  have HGX5 := Lib.hid (HGX4.out.trans (hgr.trans hg))
  have HB1 := Lib.hid (HB1.out.grow (hgr.trans hg))
  clear hg HS hgr
  clear b0 b1 b2 b3 b4 b5 b6
  have b0 := HB1.out.1.at0
  have b1 := HB1.out.1.at1
  have b2 := HB1.out.1.at2
  have b3 := HB1.out.1.at3
  have b4 := HB1.out.1.at4
  have b5 := HB1.out.1.at5
  have b6 := HB1.out.1.at6
  have hs := text_says (show headD h1 = [82, 226, 134, 144, 65, 32, 40, 70, 32, 69, 65, 67, 72, 41, 32, 66, 59, 73] by rw [← E1.out]; exact case11) HB1.out.2
  unfold hdV strv at hs
  have HS := Lib.hid hs
  clear hs
  go_wp2_with fail
  refine (HS.out).mono ?_
  rintro e x6 ⟨rfl, hg⟩
  have HGX6 := Lib.hid (HGX5.out.trans hg)
  clear hg HS
  clear b0 b1 b2 b3 b4 b5 b6
  have hs := text_says (W := x6) case12 (nil_in x6 (⟨[], [88], [70], [], [], [], []⟩ : Hd) rfl (by decide))
  unfold hdV strv at hs
  dsimp only at hs
  have HS := Lib.hid hs
  clear hs
  go_wp2_with fail
  refine (HS.out).mono ?_
  rintro e x7 ⟨rfl, hg⟩
  have HGX7 := Lib.hid (HGX6.out.trans hg)
  clear hg HS
  have hs := right_says2 (W := x7) case13 (hd0_in x7)
  unfold hdV strv hd0 at hs
  dsimp only at hs
  have HS := Lib.hid hs
  clear hs
  go_wp2_with fail
  refine (HS.out).mono ?_
  rintro e x8 ⟨rfl, hg⟩
  have HGX8 := Lib.hid (HGX7.out.trans hg)
  clear hg HS
  go_wp2
  go_ret
  exact ⟨rfl, HGX8.out⟩
end Go.Proofs.YtibcnekkmnicbaaDoor
