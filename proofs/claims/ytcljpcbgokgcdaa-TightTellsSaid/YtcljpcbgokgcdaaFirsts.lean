/-
  What array.first, whole, Right, Take, Items, Depth and Rank come to, called with any nodes.
-/
import Derived.Test.YtcljpcbgokgcdaaAdd
namespace Go.Proofs.Ytcljpcbgokgcdaa
open Go.RowKit Go.Lib
set_option linter.unusedSimpArgs false
set_option linter.unusedVariables false

def SaysS (s : St) (β : Bool) (w : World) (e : Ending) (w' : World) : Prop :=
  e = .returned (.tuple #[.agg #[.int .i64 (s.n : Nat), .int .i64 (s.i : Nat), .int .i64 (s.d : Nat), .int .i64 (s.r : Nat)], .bool β]) ∧ Grow w w'
theorem addR_first (ns : List Nd) : addR 16 st0 ns = fstD ns := by
  unfold addR fstD
  simp [st0]
theorem adv_first (t : St) : adv 1 st0 t = t := by
  obtain ⟨a, b, c, d⟩ := t
  simp only [adv, st0, St.mk.injEq]
  refine ⟨?_, ?_, ?_, ?_⟩ <;> omega

set_option maxRecDepth 10000 in
set_option maxHeartbeats 1600000 in
theorem first_any (A : Option Addr) (n c : Nat) (ns : List Nd) (w : World) (hn : ns.length = n) (hnb : n ≤ 1100000) (hf : Fits ns) (hns : Nodes w w.heap.size A ns) :
    Calls Try.prog 63 #[.slice A n c] w (SaysS (fs ns) (fstD ns).isSome w) := by
  let wA := (w.alloc (.cells #[.int .i64 0, .int .i64 0, .int .i64 0, .int .i64 0] 54)).alloc (.cells #[.int .i64 0, .int .i64 0, .int .i64 0, .int .i64 0] 54)
  have HG := Lib.hid (show Grow w wA from grow_new2 _ _ _)
  have hsz : wA.heap.size = w.heap.size + 2 := by simp [wA]
  have HST : Hid (StAt wA (w.heap.size + 1) st0) := Lib.hid (by
    have h := heap_alloc_new (w.alloc (.cells #[.int .i64 0, .int .i64 0, .int .i64 0, .int .i64 0] 54)) (.cells #[.int .i64 0, .int .i64 0, .int .i64 0, .int .i64 0] 54)
    have e1 : (w.alloc (.cells #[.int .i64 0, .int .i64 0, .int .i64 0, .int .i64 0] 54)).heap.size = w.heap.size + 1 := by simp
    rw [e1] at h
    exact h)
  have HX : Hid (StAt wA w.heap.size st0) := Lib.hid (StAt.grow (show StAt (w.alloc (.cells #[.int .i64 0, .int .i64 0, .int .i64 0, .int .i64 0] 54)) w.heap.size st0 from heap_alloc_new w _) (grow_new _ _))
  have HC := Lib.hid (add_any 16 1 (w.heap.size + 1) st0 A n c ns wA (by omega) (by omega) hn hnb (by simp [st0]) (by simp [st0]) (by simp [st0]) (by simp [st0]) hf HST.out ((hns.below HG.out).more (by omega)))
  have HSZ := Lib.hid hsz
  clear hn hf hns hsz
  go_enter Try.func63, Try.ntmps63
  go_wp2_with fail
  refine (HC.out).mono ?_
  rintro x w2 ⟨hbel, hx⟩
  rw [addR_first] at hx
  have HG2 : Hid (Grow w w2) := Lib.hid (Below.trans HG.out (Below.mono hbel (by omega)))
  have hx2 : StAt w2 w.heap.size st0 := (hbel.block w.heap.size (by omega)).trans HX.out
  have r0 := hx2.at0
  have r1 := hx2.at1
  have r2 := hx2.at2
  have r3 := hx2.at3
  have f0 := hx2.froz 0
  have f1 := hx2.froz 1
  have f2 := hx2.froz 2
  have f3 := hx2.froz 3
  have HX2 := Lib.hid hx2
  clear hx2 hbel HC HG HST HX HSZ
  cases hfs : fstD ns with
  | none =>
    rw [hfs] at hx
    dsimp only at hx
    subst hx
    have HFS := Lib.hid (fs_none hfs)
    have HFN := Lib.hid hfs
    clear hfs
    simp only [st0] at r0 r1 r2 r3
    go_wp2
    generalize hw3 : World.setCell _ _ _ = w3
    have hs3 : StAt w3 w.heap.size ⟨0, 0, 0, 0⟩ := by rw [← hw3]; exact (((HX2.out.put0 0).put1 0).put2 0).put3 0
    have HG3 := Lib.hid (show Grow w w3 by rw [← hw3]; exact (((HG2.out.put (Nat.le_refl _) 0 _).put (Nat.le_refl _) 1 _).put (Nat.le_refl _) 2 _).put (Nat.le_refl _) 3 _)
    have c0 := hs3.at0
    have c1 := hs3.at1
    have c2 := hs3.at2
    have c3 := hs3.at3
    exact bodyPost_ret (v := .tuple #[.agg #[.int .i64 0, .int .i64 0, .int .i64 0, .int .i64 0], .bool false]) (by simp [results, Try.results63, go_sem, c0, c1, c2, c3]) rfl ⟨by rw [HFS.out, HFN.out]; rfl, HG3.out⟩
  | some t =>
    rw [hfs] at hx
    dsimp only at hx
    obtain ⟨rfl, hs⟩ := hx
    rw [adv_first] at hs
    have g0 := hs.at0
    have g1 := hs.at1
    have g2 := hs.at2
    have g3 := hs.at3
    have HFS := Lib.hid (fs_some hfs)
    have HFN := Lib.hid hfs
    clear hfs
    go_wp2
    generalize hw3 : World.setCell _ _ _ = w3
    have hs3 : StAt w3 w.heap.size t := by rw [← hw3]; exact (((HX2.out.put0 t.n).put1 t.i).put2 t.d).put3 t.r
    have HG3 := Lib.hid (show Grow w w3 by rw [← hw3]; exact (((HG2.out.put (Nat.le_refl _) 0 _).put (Nat.le_refl _) 1 _).put (Nat.le_refl _) 2 _).put (Nat.le_refl _) 3 _)
    have c0 := hs3.at0
    have c1 := hs3.at1
    have c2 := hs3.at2
    have c3 := hs3.at3
    exact bodyPost_ret (v := .tuple #[.agg #[.int .i64 (t.n : Nat), .int .i64 (t.i : Nat), .int .i64 (t.d : Nat), .int .i64 (t.r : Nat)], .bool true]) (by simp [results, Try.results63, go_sem, c0, c1, c2, c3]) rfl ⟨by rw [HFS.out, HFN.out]; rfl, HG3.out⟩

set_option maxRecDepth 10000 in
set_option maxHeartbeats 1600000 in
theorem whole_any (A : Option Addr) (n c : Nat) (ns : List Nd) (w : World) (hn : ns.length = n) (hnb : n ≤ 1100000) (hf : Fits ns) (hns : Nodes w w.heap.size A ns) :
    Calls Try.prog 40 #[.slice A n c] w (SaysS (ws ns) (rightA ns) w) := by
  have HC := Lib.hid (fun W h => first_any A n c ns W hn hnb hf h)
  have HNS := Lib.hid hns
  have HN := Lib.hid hn
  clear hn hf hns
  have HZ : Hid (∀ W, Grow (w.alloc (.cells #[.int .i64 0, .int .i64 0, .int .i64 0, .int .i64 0] 54)) W → StAt W w.heap.size st0) :=
    Lib.hid (fun W hg => StAt.grow (show StAt (w.alloc (.cells #[.int .i64 0, .int .i64 0, .int .i64 0, .int .i64 0] 54)) w.heap.size st0 from heap_alloc_new w _) hg)
  have HK : Hid (((fstD ns).isSome = false ∧ fs ns = st0 ∧ ws ns = st0 ∧ rightA ns = false) ∨ ((fstD ns).isSome = true ∧ (fs ns).n < n ∧ ws ns = st0 ∧ rightA ns = false) ∨ ((fstD ns).isSome = true ∧ (fs ns).n = n ∧ ws ns = fs ns ∧ rightA ns = true)) := Lib.hid (by
    cases hfs : fstD ns with
    | none =>
      have hw : whlD ns = none := by unfold whlD; rw [hfs]; rfl
      exact .inl ⟨rfl, fs_none hfs, ws_none hw, by unfold rightA; rw [hw]; rfl⟩
    | some t =>
      have hl := (par_len (fst_some hfs).1).2.1
      rw [HN.out] at hl
      by_cases he : t.n = n
      · have hw : whlD ns = some t := whl_mk (fst_some hfs).1 (fst_some hfs).2 (by rw [HN.out]; exact he)
        exact .inr (.inr ⟨rfl, by rw [fs_some hfs]; exact he, by rw [ws_some hw, fs_some hfs], by unfold rightA; rw [hw]; rfl⟩)
      · have hw : whlD ns = none := by unfold whlD; rw [hfs, Option.bind_some, if_neg (by rw [HN.out]; exact he)]
        exact .inr (.inl ⟨rfl, by rw [fs_some hfs]; omega, ws_none hw, by unfold rightA; rw [hw]; rfl⟩))
  have hfb : (fs ns).n ≤ n := by rcases HK.out with ⟨_, h, _⟩ | ⟨_, h, _⟩ | ⟨_, h, _⟩ <;> first | omega | (rw [h]; exact Nat.zero_le _)
  generalize (fstD ns).isSome = β at *
  generalize fs ns = s at *
  generalize ws ns = z at *
  generalize rightA ns = γ at *
  obtain ⟨p, q, u, v⟩ := s
  dsimp only at HK HC hfb
  go_enter Try.func40, Try.ntmps40
  go_wp2_with fail
  refine (HC.out _ (HNS.out.grow (grow_new _ _))).mono ?_
  rintro x w2 ⟨rfl, hg⟩
  have HX2 := Lib.hid ((HZ.out _ hg).grow (grow_new w2 (.cells #[.int .i64 (p : Nat), .int .i64 (q : Nat), .int .i64 (u : Nat), .int .i64 (v : Nat)] 54)))
  have HX3 := Lib.hid (show StAt (w2.alloc (.cells #[.int .i64 (p : Nat), .int .i64 (q : Nat), .int .i64 (u : Nat), .int .i64 (v : Nat)] 54)) w2.heap.size ⟨p, q, u, v⟩ from heap_alloc_new w2 _)
  have HG2 := Lib.hid (((grow_new w _).trans hg).trans (grow_new w2 (.cells #[.int .i64 (p : Nat), .int .i64 (q : Nat), .int .i64 (u : Nat), .int .i64 (v : Nat)] 54)))
  have hne : ¬ w2.heap.size = w.heap.size := by have := HZ.out _ hg; have := this.lt; omega
  have hne' : ¬ w.heap.size = w2.heap.size := fun h => hne h.symm
  clear hg HC HZ
  have r0 := HX2.out.at0
  have r1 := HX2.out.at1
  have r2 := HX2.out.at2
  have r3 := HX2.out.at3
  have f0 := HX2.out.froz 0
  have f1 := HX2.out.froz 1
  have f2 := HX2.out.froz 2
  have f3 := HX2.out.froz 3
  rcases HK.out with ⟨rfl, hs, rfl, rfl⟩ | ⟨rfl, hs, rfl, rfl⟩ | ⟨rfl, hs, rfl, rfl⟩
  · clear hs HK
    go_wp2
    generalize hw3 : World.setCell _ _ _ = w3
    have hs3 : StAt w3 w.heap.size ⟨0, 0, 0, 0⟩ := by rw [← hw3]; exact (((HX2.out.put0 0).put1 0).put2 0).put3 0
    have HG3 := Lib.hid (show Grow w w3 by rw [← hw3]; exact (((HG2.out.put (Nat.le_refl _) 0 _).put (Nat.le_refl _) 1 _).put (Nat.le_refl _) 2 _).put (Nat.le_refl _) 3 _)
    have c0 := hs3.at0
    have c1 := hs3.at1
    have c2 := hs3.at2
    have c3 := hs3.at3
    exact bodyPost_ret (v := .tuple #[.agg #[.int .i64 0, .int .i64 0, .int .i64 0, .int .i64 0], .bool false]) (by simp [results, Try.results40, go_sem, c0, c1, c2, c3]) rfl ⟨rfl, HG3.out⟩
  · have hsi : ((p : Nat) : Int) < ((n : Nat) : Int) := by omega
    have g0 := HX3.out.at0
    clear hs HK
    dsimp only at g0
    go_wp2
    generalize hw3 : World.setCell _ _ _ = w3
    have hs3 : StAt w3 w.heap.size ⟨0, 0, 0, 0⟩ := by rw [← hw3]; exact (((HX2.out.put0 0).put1 0).put2 0).put3 0
    have HG3 := Lib.hid (show Grow w w3 by rw [← hw3]; exact (((HG2.out.put (Nat.le_refl _) 0 _).put (Nat.le_refl _) 1 _).put (Nat.le_refl _) 2 _).put (Nat.le_refl _) 3 _)
    have c0 := hs3.at0
    have c1 := hs3.at1
    have c2 := hs3.at2
    have c3 := hs3.at3
    exact bodyPost_ret (v := .tuple #[.agg #[.int .i64 0, .int .i64 0, .int .i64 0, .int .i64 0], .bool false]) (by simp [results, Try.results40, go_sem, c0, c1, c2, c3]) rfl ⟨rfl, HG3.out⟩
  · subst hs
    have hsi : ¬ ((p : Nat) : Int) < ((p : Nat) : Int) := by omega
    have g0 := HX3.out.at0
    have g1 := HX3.out.at1
    have g2 := HX3.out.at2
    have g3 := HX3.out.at3
    clear HK
    dsimp only at g0 g1 g2 g3
    go_wp2
    generalize hw3 : World.setCell _ _ _ = w3
    have hs3 : StAt w3 w.heap.size ⟨p, q, u, v⟩ := by rw [← hw3]; exact (((HX2.out.put0 p).put1 q).put2 u).put3 v
    have HG3 := Lib.hid (show Grow w w3 by rw [← hw3]; exact (((HG2.out.put (Nat.le_refl _) 0 _).put (Nat.le_refl _) 1 _).put (Nat.le_refl _) 2 _).put (Nat.le_refl _) 3 _)
    have c0 := hs3.at0
    have c1 := hs3.at1
    have c2 := hs3.at2
    have c3 := hs3.at3
    exact bodyPost_ret (v := .tuple #[.agg #[.int .i64 (p : Nat), .int .i64 (q : Nat), .int .i64 (u : Nat), .int .i64 (v : Nat)], .bool true]) (by simp [results, Try.results40, go_sem, c0, c1, c2, c3]) rfl ⟨rfl, HG3.out⟩

def Ret (v : Value) (w : World) (e : Ending) (w' : World) : Prop := e = .returned v ∧ Grow w w'

set_option maxRecDepth 10000 in
theorem aright_any (A : Option Addr) (n c : Nat) (ns : List Nd) (w : World) (hn : ns.length = n) (hnb : n ≤ 1100000) (hf : Fits ns) (hns : Nodes w w.heap.size A ns) :
    Calls Try.prog 20 #[.slice A n c] w (Ret (.bool (rightA ns)) w) := by
  have HC := Lib.hid (whole_any A n c ns w hn hnb hf hns)
  clear hn hf hns
  generalize ws ns = s at *
  generalize rightA ns = β at *
  obtain ⟨p, q, u, v⟩ := s
  try dsimp only
  go_enter Try.func20, Try.ntmps20
  go_wp2_with fail
  refine (HC.out).mono ?_
  rintro x w2 ⟨rfl, hg⟩
  have HG := Lib.hid (hg.trans (grow_new w2 (.cells #[.int .i64 (p : Nat), .int .i64 (q : Nat), .int .i64 (u : Nat), .int .i64 (v : Nat)] 54)))
  clear hg HC
  go_wp2
  go_ret
  exact ⟨rfl, HG.out⟩

set_option maxRecDepth 10000 in
theorem items_any (A : Option Addr) (n c : Nat) (ns : List Nd) (w : World) (hn : ns.length = n) (hnb : n ≤ 1100000) (hf : Fits ns) (hns : Nodes w w.heap.size A ns) :
    Calls Try.prog 21 #[.slice A n c] w (Ret (.int .i64 ((ws ns).i : Nat)) w) := by
  have HC := Lib.hid (whole_any A n c ns w hn hnb hf hns)
  clear hn hf hns
  generalize ws ns = s at *
  generalize rightA ns = β at *
  obtain ⟨p, q, u, v⟩ := s
  try dsimp only
  go_enter Try.func21, Try.ntmps21
  go_wp2_with fail
  refine (HC.out).mono ?_
  rintro x w2 ⟨rfl, hg⟩
  have HG := Lib.hid (hg.trans (grow_new w2 (.cells #[.int .i64 (p : Nat), .int .i64 (q : Nat), .int .i64 (u : Nat), .int .i64 (v : Nat)] 54)))
  clear hg HC
  go_wp2
  go_ret
  exact ⟨rfl, HG.out⟩

set_option maxRecDepth 10000 in
theorem depth_any (A : Option Addr) (n c : Nat) (ns : List Nd) (w : World) (hn : ns.length = n) (hnb : n ≤ 1100000) (hf : Fits ns) (hns : Nodes w w.heap.size A ns) :
    Calls Try.prog 22 #[.slice A n c] w (Ret (.int .i64 ((ws ns).d : Nat)) w) := by
  have HC := Lib.hid (whole_any A n c ns w hn hnb hf hns)
  clear hn hf hns
  generalize ws ns = s at *
  generalize rightA ns = β at *
  obtain ⟨p, q, u, v⟩ := s
  try dsimp only
  go_enter Try.func22, Try.ntmps22
  go_wp2_with fail
  refine (HC.out).mono ?_
  rintro x w2 ⟨rfl, hg⟩
  have HG := Lib.hid (hg.trans (grow_new w2 (.cells #[.int .i64 (p : Nat), .int .i64 (q : Nat), .int .i64 (u : Nat), .int .i64 (v : Nat)] 54)))
  clear hg HC
  go_wp2
  go_ret
  exact ⟨rfl, HG.out⟩

end Go.Proofs.Ytcljpcbgokgcdaa
